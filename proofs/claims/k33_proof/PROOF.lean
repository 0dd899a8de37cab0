import PyProof.Rows.All
import Wide.All
import OpenK.AllK
import Wide.FinOn
import KE.KExcSuper
import HandS.ForMost
import HandS.Exc
import HandS.ExcInit
import KE.GoesEnum
import HandS.Star
import HandS.TupAny
import HandS.TupMul
import HandS.SetKeys
import HandS.DictComp
import HandS.IsInst
import HandS.Defaults
import HandS.WordsExc
import HandS.ReCall
import HandS.TryMany
import HandS.ExcOwn
import HandS.ExcField
import HandS.HeadHook1
import HandS.HeadHook2
import HandS.Evl
import HandS.Codes
import HandS.Walk
import HandS.ExcIs
import KE.KExcIs
import PyProof.EqKinds
import KE.GoesZip
import HandS.Zip
import HandS.Flow
import KE.KEqSeq
import HandS.Conv
import KE.KStateDown
import HandS.Ends
import HandS.Head0
import HandS.Head1
import HandS.Head2
import HandS.HeadEnd
import PySem.Challenge.RW_shearyard_k33_peaks_in_order
section
set_option Elab.async false
set_option linter.all false
set_option maxRecDepth 100000
set_option maxHeartbeats 2000000
/-! An own exception class (any number of own base classes over ValueError) whose __init__ says super().__init__(message) and then self.f = f for each of its parameters. -/
namespace PySem
namespace SupX
open PySem.W PySem.Calls PyProof.Rows PySem.HandSPX

structure StP where
  f : Str
  q1 : Pos
  q2 : Pos
  q3 : Pos
  q4 : Pos
def stB : List StP → List Stmt
  | [] => []
  | z :: r => .Assign [.Attribute (.Name "self" z.q1) z.f z.q2] (.Name z.f z.q3) z.q4 :: stB r
def iB (msg : Expr) (p0 p1 p2 p3 p4 : Pos) (l : List StP) : List Stmt :=
  .Expr (.Call (.Attribute (.Call (.Name "super" p0) [] [] p1) "__init__" p2) [msg] [] p3) p4 :: stB l
def putAll : List (Str × Value) → (Str → Option Value) → (Str → Option Value)
  | [], m => m
  | (f, v) :: r, m => putAll r (fun y => if y = f then some v else m y)
/-- the message's expression gives some value and writes nothing -/
def MsgOk (prog : Program) (w : World) (env : Env) (m : Str → Option Value) (msg : Expr) : Prop :=
  ∀ (A : Around) (E : Value → Shared → Prop) (s : Shared) (Q : Value → Shared → Prop), s.heap.Ns env.locals m → (∀ v t, Q v { s with toks := t }) → wpAny (model prog w) A (eval msg env) Q E s

theorem lookup_nd {k : Str} {v : Value} : ∀ {l : List (Str × Value)}, (l.map (·.1)).Nodup → (k, v) ∈ l → l.lookup k = some v
  | [], _, h => nomatch h
  | (a, b) :: r, nd, h => by
    rw [List.map_cons, List.nodup_cons] at nd
    rcases List.mem_cons.mp h with e | e
    · cases e
      simp [List.lookup]
    · have ne : ¬ k = a := fun z => nd.1 (by rw [← z]; exact List.mem_map_of_mem (f := (·.1)) e)
      have nb : (k == a) = false := by simpa using ne
      show (match k == a with | true => some b | false => r.lookup k) = some v
      rw [nb]
      exact lookup_nd nd.2 e
theorem lookup_rev {k : Str} {v : Value} {l : List (Str × Value)} (nd : (l.map (·.1)).Nodup) (h : (k, v) ∈ l) : l.reverse.lookup k = some v :=
  lookup_nd (by rw [List.map_reverse]; exact List.pairwise_reverse.mpr (List.Pairwise.imp (fun z => Ne.symm z) nd)) (List.mem_reverse.mpr h)

section
variable {prog : Program} {w : World} {M : Model} {A : Around} {E : Value → Shared → Prop} {R : Result → Shared → Prop} {s : Shared} {K : Frag}
theorem ldK {name : Str} {scope : Scope} {L a : Addr} {cd : Value} {cells : List (Str × Addr)} {m : Str → Option Value} {x : Str} {pos : Pos} {v : Value} {Q : Value → Shared → Prop}
    (hn : s.heap.Ns L m) (hv : m x = some v) (h : Q v s) (hk : scope.kind = .function) (hl : scope.names.lookup x = some .local) (hd : (x == ("__debug__" : Str)) = false) :
    wpAny M A (eval (.Name x pos) (envX name scope L a cd cells)) Q E s := wpAny_Name (wpAny_loadName_local (env := envX name scope L a cd cells) hk hl hn hv h) hd

/-- the method-wrapper of ValueError.__init__ called on the fresh exception -/
theorem call_mw {h : Heap} {g : Array GenState} {d : Drawn} {t : Nat} {os : OsState} {nm q : Str} {C N : Addr} {bs bm : List Value} {hdct : Bool} {sn : List Str} {sub : List Value} {ab : Bool} {col : Option Bool} {dd : Option Addr} {k0 k1 k2 k3 k5 : Option Value}
    {u e t0 : Addr} {rest : List Value} {Q : Value → Shared → Prop} (hC : h.get? C = some (excClassObj nm q C N bs bm hdct sn sub ab col dd k0 k1 k2 k3 k5 "ValueError.__new__")) (hbm : refsVE bm = true)
    (he : h.get? e = some (excO C t0)) (hu : h.get? u = some (kxs_mw "ValueError.__init__" e)) (hrest : rest.length ≤ sizeLine)
    (hq : ∀ h' t1, (∀ b o, b ≠ e → h.get? b = some o → h'.get? b = some o) → h'.get? e = some (excO C t1) → Q .none ⟨h', g, d, t, os⟩) :
    wpAny (model prog w) A (call (.ref u) rest) Q E ⟨h, g, d, t, os⟩ := by
  refine wpAny_call (codeAny_of_tree ?_)
  show wpAny _ A.in1 (callAny (.ref u) ⟨rest, []⟩) _ _ _
  simp only [callAny]
  refine wpAny_bind (wpAny_load hu ?_)
  simp only [kxs_mw, show (Value.type "method-wrapper" == Value.type "method" || Value.type "method-wrapper" == Value.type "builtin_function_or_method" || Value.type "method-wrapper" == Value.type "method-wrapper") = true by decide, if_true]
  refine KFB.if_so (by decide) ?_
  refine wpAny_bind (check_bound_init F.excBase_ValueError.toExcCallFacts hC he rfl ?_)
  refine wpAny_bind (wpAny_pure (wpAny_pure ?_))
  refine ⟨Code.quiet_builtin _ (by decide +kernel), codeAny_builtin F.excBase_ValueError.initEntry ?_⟩
  rw [Around.under_plainId F.excBase_ValueError.init.plain _]
  wp_walk
  refine hq _ h.objs.size (fun b o hb ho => ?_) ?_
  · rw [Heap.get?_update_other _ _ (Ne.symm hb)]
    exact Heap.get?_push_of_some _ ho
  · rw [Heap.get?_update_self _ (Heap.get?_push_of_some _ he) rfl]
    rfl

/-- self.f = f, the further ones -/
theorem stores_old {name : Str} {scope : Scope} {L a C x dx : Addr} {cd : Value} {cells : List (Str × Addr)} {m : Str → Option Value} {fv : Array Value} {cdt : ClassData}
    (hk : scope.kind = .function) (hcd : clsIn K C = some cdt) (hm : refsVE cdt.mro = true) (hh : cdt.hasDict = true) (hsa : findIn K (.ref C) "__setattr__" = some (some (.builtin "object.__setattr__")))
    (hself : m "self" = some (.ref x)) (lself : scope.names.lookup ("self" : Str) = some .local) (hxL : x ≠ L) (hdL : dx ≠ L) (hnx : K.lookup x = none) (hnd : K.lookup dx = none) (hxd : x ≠ dx) :
    ∀ (l : List StP) (vs : List Value) (s : Shared) (m0 : Str → Option Value) (nl : List Str), vs.length = l.length → K.In s.heap → s.heap.Ns L m → s.heap.get? x = some { cls := .ref C, dict := some dx, data := .fields fv } → s.heap.Ns1 dx m0 → Within m0 nl → nl.length + l.length ≤ 900 →
      (∀ z ∈ l, scope.names.lookup z.f = some .local ∧ (z.f == ("__debug__" : Str)) = false ∧ findIn K (.ref C) z.f = some none) → (∀ (i : Nat) (z : StP) (v : Value), l[i]? = some z → vs[i]? = some v → m z.f = some v) →
      (∀ h' tk', (∀ b o, b ≠ dx → s.heap.get? b = some o → h'.get? b = some o) → h'.Ns1 dx (putAll ((l.map (·.f)).zip vs) m0) → R (.ok (.ret .none)) { s with heap := h', toks := tk' }) →
      wpAny (model prog w) A (execs (stB l) (envX name scope L a cd cells)) (fun fl s' => R (.ok (.ret (match fl with | .ret v => v | _ => .none))) s') E s := by
  intro l
  induction l with
  | nil =>
    intro vs s m0 nl hl X hn hx hns hw hz hloc hval hq
    cases vs with
    | cons _ _ => cases hl
    | nil => exact wpAny_execs_nil (hq s.heap s.toks (fun b o _ e => e) hns)
  | cons z r ih =>
    intro vs s m0 nl hl X hn hx hns hw hz hloc hval hq
    cases vs with
    | nil => cases hl
    | cons v vs =>
      obtain ⟨l1, l2, l3⟩ := hloc z List.mem_cons_self
      obtain ⟨oD, esD, epD, hoD, _, _⟩ := hns.count hw
      refine wpAny_execs_cons (plainObj_wpAny_Assign_Attribute ?_)
      refine ldK hn (hval 0 z v rfl rfl) ?_ hk l1 l2
      refine ldK hn hself ?_ hk lself (by decide)
      refine set_plain X (ox := { cls := .ref C, dict := some dx, data := .fields fv }) (od := some oD) ⟨hx, rfl, rfl, hoD⟩ hsa ?_
      refine PySem.OEX.osa_old X hx hns hw (by rw [List.length_cons] at hz; omega) hcd hm hh l3 fun h' tk' k hn' => ?_
      have X' : K.In h' := fun b o e => k b o (fun q => by rw [q, hnd] at e; cases e) (X b o e)
      obtain ⟨oL, esL, epL, hL, hrL⟩ := hn
      refine ih vs ⟨h', s.gens, s.drawn, tk', s.os⟩ _ (z.f :: nl) (by simpa using hl) X' ⟨oL, esL, epL, k _ _ (Ne.symm hdL) hL, hrL⟩ (k _ _ hxd hx) hn' (Within.cons z.f v hw) (by rw [List.length_cons] at hz ⊢; omega)
        (fun y hy => hloc y (List.mem_cons_of_mem _ hy)) (fun i y u h1 h2 => hval (i + 1) y u h1 h2) fun h2 t2 k2 n2 => ?_
      exact hq h2 t2 (fun b o hb e => k2 b o hb (k b o hb e)) n2
end
end SupX
end PySem
end
section
set_option Elab.async false
set_option linter.all false
set_option maxRecDepth 100000
set_option maxHeartbeats 2000000
namespace PySem
namespace SupX
open PySem.W PySem.Calls PyProof.Rows PySem.HandSPX

structure SupScope (scope : Scope) (l : List StP) : Prop where
  kind : scope.kind = .function
  co : scope.isCoroutine = false
  gen : scope.isGenerator = false
  cell : ∀ x ∈ scope.names, x.2 ≠ .cell
  self : scope.names.lookup ("self" : Str) = some .local
  sup : scope.names.lookup ("super" : Str) = some .globalImplicit
  clsv : scope.names.lookup ("__class__" : Str) = some .free
  loc : ∀ z ∈ l, scope.names.lookup z.f = some .local ∧ (z.f == ("__debug__" : Str)) = false
  nd : (("self" : Str) :: l.map (·.f)).Nodup
structure SupTxt (prog : Program) (K : Frag) (C fI : Addr) (qual : Str) (params : Arguments) (body : List Stmt) (scope : Scope) (l : List StP) : Prop where
  cls : ∃ nm q N bs bm sn sub ab col dd k0 k1 k2 k3 k5, K.lookup C = some (excClassObj nm q C N bs bm true sn sub ab col dd k0 k1 k2 k3 k5 "ValueError.__new__") ∧ refsVE bm = true
  sa : findIn K (.ref C) "__setattr__" = some (some (.builtin "object.__setattr__"))
  noat : ∀ z ∈ l, findIn K (.ref C) z.f = some none
  iC : findIn K (.ref C) "__init__" = some (some (.ref fI))
  tC : typeIn K (.ref fI) = some (.type "function")
  kC : keepIn K (.ref C) = true
  exC : subIn K (.ref C) (.type "BaseException") = some true
  veC : subIn K (.ref C) (.type "ValueError") = some true
  tyC : typeIn K (.ref C) = some (.type "type")
  mro : mroIn K C (.ref C) = some true
  sup : ks_superIn K C C "__init__" = some (some (.builtin "ValueError.__init__"))
  opq : nsIn K cStatics "thirdparty.any" = some none
  fn : ∃ (oc : Value) (od : Option Addr) (osl : Array (Option Value)) (kV doc pm : Value) (an : Option Addr) (cda : Addr) (ct : Value) (cc : Addr) (ccl : Value) (cdd : Option Addr) (cvs : Array Value) (ccs : Array (Option Value)) (file : Str) (tf : Tok) (cl : Value) (cld : Option Addr) (csl : Array (Option Value)),
    K.lookup fI = some ⟨oc, od, .func (ksFn "__init__" qual params body scope .none kV doc pm an (.ref cda) ct cc), osl⟩ ∧ codeIn K (.ref cda) qual = true ∧
    K.lookup cda = some ⟨ccl, cdd, .fields cvs, ccs⟩ ∧ cvs[2]? = some (.str file tf) ∧ ((prog.main.file : Str) == file) = true ∧ K.lookup cc = some ⟨cl, cld, .cell (some (.ref C)), csl⟩
structure InitEnd (h h' : Heap) (x C dx t1 : Addr) (l : List StP) (vs : List Value) : Prop where
  keep : ∀ b o, b ≠ x → h.get? b = some o → h'.get? b = some o
  obj : h'.get? x = some { cls := .ref C, dict := some dx, data := .fields #[.ref t1, .none, .none, .none, .bool false, .none] }
  dbig : h.objs.size ≤ dx
  dne : dx ≠ x
  ns : h'.Ns1 dx (putAll ((l.map (·.f)).zip vs) fun _ => none)

section
variable {prog : Program} {w : World} {A : Around} {E : Value → Shared → Prop} {R : Result → Shared → Prop} {s : Shared} {K : Frag} {mg mb : Str → Option Value} {C fI : Addr} {qual : Str} {params : Arguments} {scope : Scope} {msg : Expr} {p0 p1 p2 p3 p4 : Pos} {z0 : StP} {l : List StP}
/-- what the places of the text decide -/
structure SupPos (qual : Str) (scope : Scope) (fI : Addr) (msg : Expr) (p0 p1 p2 p3 p4 : Pos) : Prop where
  ev : ∀ (L : Addr) (cda cc : Addr), ∃ pl : Sem Bool, eval (.Call (.Attribute (.Call (.Name "super" p0) [] [] p1) "__init__" p2) [msg] [] p3) (ksEnv qual scope L fI (.ref cda) cc) = (do
      let ov ← attributeBase (.Call (.Name "super" p0) [] [] p1) "__init__" (ksEnv qual scope L fI (.ref cda) cc) (eval (.Call (.Name "super" p0) [] [] p1) (ksEnv qual scope L fI (.ref cda) cc))
      standAt p2.atName
      let (f, first) ← holding [ov] (getMethod ov "__init__" pl)
      callWith p3 f first (backTo p3 (starEach [msg] (ksEnv qual scope L fI (.ref cda) cc))) [])
  it : ∀ (L : Addr) (cda cc : Addr), interactive (ksEnv qual scope L fI (.ref cda) cc) = false
  st : ∀ (L : Addr) (cda cc : Addr), backTo p3 (starEach [msg] (ksEnv qual scope L fI (.ref cda) cc)) = [(false, eval msg (ksEnv qual scope L fI (.ref cda) cc))]
theorem sup_init (PP : SupPos qual scope fI msg p0 p1 p2 p3 p4) (T : SupTxt prog K C fI qual params (iB msg p0 p1 p2 p3 p4 (z0 :: l)) scope (z0 :: l)) (S : SupScope scope (z0 :: l)) (htop : (prog.main.scope.names.lookup ("super" : Str)).isSome = false)
    (hhead : ∃ ar : Arg, (params.posonlyargs ++ params.args).head? = some ar ∧ ar.arg = "self")
    (hbind : ∀ (kV doc pm : Value) (an : Option Addr) (cda : Addr) (ct : Value) (cc : Addr) (us : List Value), us.length = l.length + 2 →
      bindArgs (ksFn "__init__" qual params (iB msg p0 p1 p2 p3 p4 (z0 :: l)) scope .none kV doc pm an (.ref cda) ct cc) ⟨us, []⟩ = pure ((("self" : Str) :: (z0 :: l).map (·.f)).zip us))
    {x t0 : Addr} {vs : List Value} (X : K.In s.heap) (hlim : s.heap.NoLimit) (hG : s.heap.Ns mainGlobals mg) (gs : mg "super" = none) (hB : s.heap.Ns builtinsNs mb) (bsup : mb "super" = some (.type "super"))
    (hl : vs.length = l.length + 1) (hx : s.heap.get? x = some (excO C t0)) (hnx : K.lookup x = none) (hroom : A.depth < recursionLimit) (hl2 : l.length ≤ 800)
    (hmsg : ∀ (L cda cc : Addr), MsgOk prog w (ksEnv qual scope L fI (.ref cda) cc) (fun y => (((("self" : Str) :: (z0 :: l).map (·.f)).zip (.ref x :: vs)).reverse).lookup y) msg)
    (hq : ∀ h' tk dx t1, InitEnd s.heap h' x C dx t1 (z0 :: l) vs → R (.ok (.ret .none)) { s with heap := h', toks := tk }) :
    codeAny (model prog w) A (.call (.ref fI) ⟨.ref x :: vs, []⟩) R s := by
  obtain ⟨oc, od, osl, kV, doc, pm, an, cda, ct, cc, ccl, cdd, cvs, ccs, file, tf, cl, cld, csl, ho, hcd, hcode, hvs, hfile, hcell⟩ := T.fn
  obtain ⟨nm, q, N, bs, bm, sn, sub, ab, col, dd, k0, k1, k2, k3, k5, hC, hbm⟩ := T.cls
  have hcl : clsIn K C = some { name := nm, bases := bs, mro := .ref C :: bm, ns := N, qualname := q, hasDict := true, slotNames := sn, subclasses := sub, abstract := ab, collection := col, hasDel := false } := by unfold clsIn; rw [hC] <;> rfl
  obtain ⟨ar, har, hself⟩ := hhead
  have hlen : (Value.ref x :: vs).length = l.length + 2 := by rw [List.length_cons, hl]
  have hzl : ((("self" : Str) :: (z0 :: l).map (·.f)).zip (Value.ref x :: vs)).map (·.1) = ("self" : Str) :: (z0 :: l).map (·.f) := by
    rw [← List.unzip_fst, List.unzip_zip (by rw [hlen]; simp)]
  have hnd : (((("self" : Str) :: (z0 :: l).map (·.f)).zip (Value.ref x :: vs)).map (·.1)).Nodup := by rw [hzl]; exact S.nd
  have hm0 : ((("self" : Str) :: (z0 :: l).map (·.f)).zip (Value.ref x :: vs)).reverse.lookup ("self" : Str) = some (.ref x) := lookup_rev hnd List.mem_cons_self
  have hmi : ∀ (i : Nat) (z : StP) (v : Value), (z0 :: l)[i]? = some z → vs[i]? = some v → ((("self" : Str) :: (z0 :: l).map (·.f)).zip (Value.ref x :: vs)).reverse.lookup z.f = some v := fun i z v h1 h2 => by
    refine lookup_rev hnd (List.mem_cons_of_mem _ ?_)
    refine List.mem_iff_getElem?.mpr ⟨i, ?_⟩
    exact List.getElem?_zip_eq_some.mpr ⟨by rw [List.getElem?_map, h1]; rfl, h2⟩
  refine ks_codeAny_call_defAt (fd := ksFn "__init__" qual params (iB msg p0 p1 p2 p3 p4 (z0 :: l)) scope .none kV doc pm an (.ref cda) ct cc) (body := iB msg p0 p1 p2 p3 p4 (z0 :: l)) (binds := (("self" : Str) :: (z0 :: l).map (·.f)).zip (Value.ref x :: vs)) hroom (X _ _ ho) rfl hlim (codeRec_of X hcd) rfl (BindsTo.of_eq (hbind kV doc pm an cda ct cc _ hlen)) S.cell (fun y hy => ?_) (fun h₁ hns k => ?_) S.co S.gen S.kind
  · have hy1 : y.1 ∈ ("self" : Str) :: (z0 :: l).map (·.f) := (List.of_mem_zip (a := y.1) (b := y.2) hy).1
    rcases List.mem_cons.mp hy1 with e | e
    · rw [e]; exact S.self
    · obtain ⟨z, hz, e2⟩ := List.mem_map.mp e
      rw [← e2]; exact (S.loc z hz).1
  · obtain ⟨hh, g, d, t, os⟩ := s
    have X₁ : K.In h₁ := X.keeps k
    have hx₁ := k _ _ hx
    have hxL : x ≠ hh.objs.size := Nat.ne_of_lt (Heap.lt_size hx)
    show _root_.PySem.wpAt (model prog w) (A.deeper (ksEnv qual scope hh.objs.size fI (.ref cda) cc)) (.func _ (ksEnv qual scope hh.objs.size fI (.ref cda) cc)) (execs (iB msg p0 p1 p2 p3 p4 (z0 :: l)) (ksEnv qual scope hh.objs.size fI (.ref cda) cc)) _ _ _
    obtain ⟨pl, hev⟩ := PP.ev hh.objs.size cda cc
    refine ks_wpAt_execs_cons (ks_wpAt_Expr_any (ks_wpAt_MethodCall (pl := pl) ?_ hev) (PP.it _ _ _))
    have I₁ : InstAt h₁ x (excO C t0) C none := ⟨hx₁, rfl, rfl, trivial⟩
    refine ks_wpAt_super_base (env := ksEnv qual scope hh.objs.size fI (.ref cda) cc) S.sup S.clsv (by decide) rfl (X₁ _ _ ho) rfl har rfl (X₁ _ _ hcode) rfl hvs hfile htop ?_
    refine ks_loadName_global S.kind S.sup (loadGlobal_builtin (env := ksEnv qual scope hh.objs.size fI (.ref cda) cc) (hG.keeps k) gs (hB.keeps k) bsup ⟨rfl, ?_⟩)
    refine wpAny_loadName_free S.kind S.clsv rfl ⟨_, X₁ _ _ hcell, rfl⟩ ?_
    rw [hself]
    refine wpAny_loadName_local S.kind S.self hns hm0 ?_
    refine ks_wpAny_isType_cls (X₁ _ _ hC) rfl ⟨rfl, ?_⟩
    refine ks_wpAny_call_super (X₁ _ _ hC) rfl I₁.at_ I₁.cls (fun c e => by cases e) (looks_mroIn X₁ T.mro) (fun h₂ e₂ k₂ => ?_)
    have X₂ : K.In h₂ := X₁.keeps k₂
    have I₂ : InstAt h₂ x (excO C t0) C none := ⟨k₂ _ _ hx₁, rfl, rfl, trivial⟩
    have hsup := T.sup
    unfold ks_superIn at hsup
    rw [hcl] at hsup
    refine kxs_getMethod kxs_ValueError e₂ (looks_opaque X₂ T.opq) (l₀ := .ref C :: bm) (fun A Q E s k q => wpAny_bind ((looks_clsIn X₂ hcl) A _ E s k (wpAny_pure q))) rfl X₂ hsup (I₂.type.andThen (looks_subIn X₂ T.veC)) (ks_ne X₂ I₂ hcl) (by decide) ?_
    rw [PP.st]
    refine kxs_callWith (i := "ValueError.__init__") (x := x) (by rfl) (evalArgs_plain ?_)
    obtain ⟨oL, esL, epL, hL, hrL⟩ := hns
    have k₃ : ∀ b o, h₂.get? b = some o → (h₂.push (kxs_mw "ValueError.__init__" x)).get? b = some o := fun b o e => Heap.get?_push_of_some _ e
    refine spliced_cons ?_
    refine hmsg hh.objs.size cda cc _ _ _ _ ⟨oL, esL, epL, k₃ _ _ (k₂ _ _ hL), hrL⟩ fun v tk => ?_
    refine spliced_nil ?_
    have hmw : (h₂.push (kxs_mw "ValueError.__init__" x)).get? h₂.objs.size = some (kxs_mw "ValueError.__init__" x) := Heap.get?_push_at rfl rfl
    refine ⟨hmw, ?_⟩
    have X₃ : K.In (h₂.push (kxs_mw "ValueError.__init__" x)) := X₂.keeps k₃
    refine call_mw (X₃ _ _ hC) hbm (k₃ _ _ I₂.at_) hmw (by show 1 ≤ sizeLine; rw [sizeLine_eq]; decide) fun h₄ t₄ k₄ e₄ => ?_
    have kx : ∀ b o, b ≠ x → h₁.get? b = some o → h₄.get? b = some o := fun b o hb e => k₄ b o hb (k₃ _ _ (k₂ _ _ e))
    refine wpAt_of_wpAny ?_
    have hn₄ : h₄.Ns hh.objs.size (fun y => (((("self" : Str) :: (z0 :: l).map (·.f)).zip (Value.ref x :: vs)).reverse).lookup y) := ⟨oL, esL, epL, kx _ _ (Ne.symm hxL) hL, hrL⟩
    have X₄ : K.In h₄ := fun b o e => kx b o (fun q => by rw [q, hnx] at e; cases e) (X₁ b o e)
    cases vs with
    | nil => cases hl
    | cons v0 vr =>
      obtain ⟨l1, l2⟩ := S.loc z0 List.mem_cons_self
      show wpAny _ _ (execs (stB (z0 :: l)) _) _ _ _
      refine wpAny_execs_cons (plainObj_wpAny_Assign_Attribute ?_)
      refine ldK hn₄ (hmi 0 z0 v0 rfl rfl) ?_ S.kind l1 l2
      refine ldK hn₄ hm0 ?_ S.kind S.self (by decide)
      refine set_plain X₄ (ox := excO C t₄) (od := none) ⟨e₄, rfl, rfl, trivial⟩ T.sa ?_
      refine exc_osa X₄ e₄ hcl (show refsVE (.ref C :: bm) = true from hbm) rfl (T.noat z0 List.mem_cons_self) fun h₅ tk₅ dx k₅ dn dne hx₅ hn₅ => ?_
      have dL : dx ≠ hh.objs.size := fun q => by
        have z := Heap.lt_size (kx _ _ (Ne.symm hxL) hL)
        rw [← q] at z
        exact absurd (Nat.lt_of_lt_of_le z dn) (Nat.lt_irrefl _)
      have sz : hh.objs.size ≤ dx := Nat.le_trans (Nat.le_of_lt (Heap.lt_size (kx _ _ (Ne.symm hxL) hL))) dn
      have dK : K.lookup dx = none := by
        cases e : K.lookup dx with
        | none => rfl
        | some o => exact absurd (Nat.lt_of_lt_of_le (Heap.lt_size (X₄ _ _ e)) dn) (Nat.lt_irrefl _)
      have X₅ : K.In h₅ := fun b o e => k₅ b o (fun q => by rw [q, hnx] at e; cases e) (X₄ b o e)
      refine stores_old S.kind hcl (show refsVE (.ref C :: bm) = true from hbm) rfl T.sa hm0 S.self hxL dL hnx dK (Ne.symm dne) l vr ⟨h₅, g, d, tk₅, os⟩ _ [z0.f] (by simpa using hl) X₅ ⟨oL, esL, epL, k₅ _ _ (Ne.symm hxL) (kx _ _ (Ne.symm hxL) hL), hrL⟩ hx₅ hn₅ ?_ (by show 1 + l.length ≤ 900; omega)
        (fun z hz => ⟨(S.loc z (List.mem_cons_of_mem _ hz)).1, (S.loc z (List.mem_cons_of_mem _ hz)).2, T.noat z (List.mem_cons_of_mem _ hz)⟩) (fun i z u e1 e2 => hmi (i + 1) z u e1 e2) fun h₆ t₆ k₆ n₆ => ?_
      · intro y hy
        by_cases e : y = z0.f
        · rw [e]; exact List.mem_cons_self
        · have hy2 : (if y = z0.f then some v0 else none) ≠ none := hy
          rw [if_neg e] at hy2
          exact absurd rfl hy2
      · refine hq h₆ t₆ dx t₄ ⟨fun b o hb e => ?_, k₆ _ _ (Ne.symm dne) hx₅, sz, dne, n₆⟩
        have hbd : b ≠ dx := fun q => by
          have z := Heap.lt_size e
          rw [q] at z
          exact absurd (Nat.lt_of_lt_of_le z sz) (Nat.lt_irrefl _)
        exact k₆ _ _ hbd (k₅ _ _ hb (kx _ _ hb (k _ _ e)))

/-- a made one -/
structure Made (h h' : Heap) (e C d : Addr) (fs : List Str) (us : List Value) : Prop where
  keep : ∀ b o, h.get? b = some o → h'.get? b = some o
  new : h.objs.size ≤ e
  obj : ∃ oe vs, h'.get? e = some oe ∧ oe.cls = .ref C ∧ oe.dict = some d ∧ oe.data = .fields vs ∧ vs[1]? = some .none
  dbig : h.objs.size ≤ d
  dne : d ≠ e
  ns : h'.Ns1 d (putAll (fs.zip us) fun _ => none)
theorem sup_made (PP : SupPos qual scope fI msg p0 p1 p2 p3 p4) (T : SupTxt prog K C fI qual params (iB msg p0 p1 p2 p3 p4 (z0 :: l)) scope (z0 :: l)) (S : SupScope scope (z0 :: l)) (htop : (prog.main.scope.names.lookup ("super" : Str)).isSome = false)
    (hhead : ∃ ar : Arg, (params.posonlyargs ++ params.args).head? = some ar ∧ ar.arg = "self")
    (hbind : ∀ (kV doc pm : Value) (an : Option Addr) (cda : Addr) (ct : Value) (cc : Addr) (us : List Value), us.length = l.length + 2 →
      bindArgs (ksFn "__init__" qual params (iB msg p0 p1 p2 p3 p4 (z0 :: l)) scope .none kV doc pm an (.ref cda) ct cc) ⟨us, []⟩ = pure ((("self" : Str) :: (z0 :: l).map (·.f)).zip us))
    {vs : List Value} (X : K.In s.heap) (hlim : s.heap.NoLimit) (hG : s.heap.Ns mainGlobals mg) (gs : mg "super" = none) (hB : s.heap.Ns builtinsNs mb) (bsup : mb "super" = some (.type "super"))
    (hl : vs.length = l.length + 1) (hroom : A.depth + 1 < recursionLimit) (hl2 : l.length ≤ 800)
    (hmsg : ∀ (x L cda cc : Addr), MsgOk prog w (ksEnv qual scope L fI (.ref cda) cc) (fun y => (((("self" : Str) :: (z0 :: l).map (·.f)).zip (.ref x :: vs)).reverse).lookup y) msg)
    (hq : ∀ h' tk e d, Made s.heap h' e C d ((z0 :: l).map (·.f)) vs → R (.ok (.ret (.ref e))) { s with heap := h', toks := tk }) :
    codeAny (model prog w) A (.call (.ref C) ⟨vs, []⟩) R s := by
  obtain ⟨nm, q, N, bs, bm, sn, sub, ab, col, dd, k0, k1, k2, k3, k5, hC, hbm⟩ := T.cls
  obtain ⟨hp, g, dr, tk, os⟩ := s
  have k : ∀ b o, hp.get? b = some o → ((hp.push (kdv_tup vs)).push (excO C hp.objs.size)).get? b = some o := fun b o e => Heap.get?_push_of_some _ (Heap.get?_push_of_some _ e)
  have hget : ((hp.push (kdv_tup vs)).push (excO C hp.objs.size)).get? (hp.objs.size + 1) = some (excO C hp.objs.size) := by heap_get
  have hnx : K.lookup (hp.objs.size + 1) = none := by
    cases e : K.lookup (hp.objs.size + 1) with
    | none => rfl
    | some o =>
      have z : hp.get? (hp.objs.size + 1) = some o := X _ _ e
      exact absurd (Nat.lt_of_succ_lt (Heap.lt_size z)) (Nat.lt_irrefl _)
  have hvl : vs.length ≤ sizeLine := by
    rw [sizeLine_eq]
    omega
  refine call_own F.excBase_ValueError (fun X => refsVE_contains X bm hbm) (X _ _ hC) (looks_findIn X T.iC) (fun self => bind_fn X self T.tC) hvl ?_
  refine sup_init (s := ⟨(hp.push (kdv_tup vs)).push (excO C hp.objs.size), g, dr, tk, os⟩) PP T S htop hhead hbind (X.keeps k) (hlim.keeps k) (hG.keeps k) gs (hB.keeps k) bsup hl hget hnx ?_ hl2 (hmsg _) fun h' tk' dx t1 M => ?_
  · show A.depth + 1 < recursionLimit
    exact hroom
  · have dn : ((hp.push (kdv_tup vs)).push (excO C hp.objs.size)).objs.size ≤ dx := M.dbig
    have old : ∀ b o, hp.get? b = some o → h'.get? b = some o := fun b o e => M.keep b o (Nat.ne_of_lt (Nat.lt_succ_of_lt (Heap.lt_size e))) (k b o e)
    rw [Heap.size_push, Heap.size_push] at dn
    exact ⟨rfl, hq h' tk' (hp.objs.size + 1) dx ⟨old, Nat.le_succ _, ⟨_, _, M.obj, rfl, rfl, rfl, rfl⟩, (by show hp.objs.size ≤ dx; omega), M.dne, M.ns⟩⟩
end
/-- a class that is made by C(..): what its caller needs -/
structure SupCls (prog : Program) (w : World) (K : Frag) (mg : Str → Option Value) (x : Str) (C : Addr) (fs : List Str) (P : List L2.V → Prop) : Prop where
  gC : mg x = some (.ref C)
  gs : mg "super" = none
  kC : keepIn K (.ref C) = true
  exC : subIn K (.ref C) (.type "BaseException") = some true
  tyC : typeIn K (.ref C) = some (.type "type")
  made : ∀ (A : Around) (s : Shared) (R : Result → Shared → Prop) (mb : Str → Option Value) (vs : List L2.V) (us : List Value), L2.Vals vs us → P vs → vs.length = fs.length → K.In s.heap → s.heap.NoLimit → s.heap.Ns mainGlobals mg → s.heap.Ns builtinsNs mb → mb "super" = some (.type "super") → A.depth + 1 < recursionLimit →
    (∀ h' tk e d, Made s.heap h' e C d fs us → R (.ok (.ret (.ref e))) { s with heap := h', toks := tk }) → codeAny (model prog w) A (.call (.ref C) ⟨us, []⟩) R s
end SupX
end PySem
namespace L2
open PySem PySem.Spec PyProof.Rows
/-- the fields, the last one first -/
def xfs : List Str → List V → List (Str × V) → List (Str × V)
  | f :: fs, v :: vs, acc => xfs fs vs ((f, v) :: acc)
  | _, _, acc => acc
theorem xfs_ok : ∀ {fs : List Str} {vs : List V} {us : List Value} {acc : List (Str × V)} {m : Str → Option Value}, Vals vs us → (∀ f, RelO (acc.lookup f) (m f)) → ∀ f, RelO ((xfs fs vs acc).lookup f) (PySem.SupX.putAll (fs.zip us) m f)
  | [], _, _, _, _, _, r => r
  | _ :: _, [], _, _, _, .nil, r => r
  | g :: fs, v :: vs, _ :: us, acc, m, .cons rv rt, r => xfs_ok (fs := fs) rt (relO_put rv r)
section
variable {X : Cx} {C : Addr} {x : Str} {fs : List Str} {P : List V → Prop}
/-- C(e, ..) -/
def tMkSup (C : Addr) (fs : List Str) (P : List V → Prop) (ta : TA) : St → Hp → XK → Prop := fun σ H Q => ta σ H fun vs H1 => P vs ∧ vs.length = fs.length ∧ ∀ d, H1 d = none → Q (.ref C) (some d) (upd H1 d (.xd (xfs fs vs [])))
theorem pmk_sup {e : Expr} {es : List Expr} {ta : TA} {p pos : Pos} {k : Nat} (T : PySem.SupX.SupCls X.prog X.w X.K X.mg x C fs P) (hr : Room k X.A) (ha : PA X (e :: es) ta) (hg : Gl X x := by rfl) (hx : (x == ("__debug__" : Str)) = false := by decide)
    (he : starEach (e :: es) X.env = (false, eval e X.env) :: starEach es X.env := by rfl) (hpl : (backTo pos (starEach es X.env)).any (·.1) = false := by rfl) :
    PMk X (.Call (.Name x p) (e :: es) [] pos) (tMkSup C fs P ta) := by
  intro pins s σ H Q I h
  refine wpAny_Call_Name_kw (ld_glob I hg T.gC ?_ hx)
  refine PySem.W.callWith_K (h₀ := X.base) I.ok.mod.kin T.kC (thn (ha.run pos pins s σ H _ I h) fun us s1 hh => ?_) he hpl
  obtain ⟨vs, H1, I1, r1, hP, hl, q1⟩ := hh
  refine ⟨I1.kIn, ?_⟩
  show wpAny _ _ (call (.ref C) us) _ _ _
  have hlim := I1.nolimit
  obtain ⟨mb, hb1, hb2⟩ := I1.mod.blt
  have hG : s1.heap.Ns mainGlobals X.mg := I1.mod.glob.keeps I1.bk
  have hB : s1.heap.Ns builtinsNs mb := hb1.keeps I1.bk
  obtain ⟨hp, g, dr, tk, os⟩ := s1
  refine wpAny_call (T.made _ _ _ mb vs us r1 hP hl I1.kIn hlim hG hB ((hb2 _ (by decide)).trans (by decide +kernel)) (by have := hr.dp; omega) fun h' tk' e d M => ?_)
  show MkP X pins σ Q (.ref e) ⟨h', g, dr, tk', os⟩
  obtain ⟨oe, fv, hoe, hc, hd, hdat, h1⟩ := M.obj
  have hns := M.ns
  obtain ⟨G', g1, g2⟩ := restrict h' fun b => decide (b ≠ e)
  have gk : ∀ b, b ≠ e → G'.get? b = h'.get? b := fun b hb => g1 b (decide_eq_true hb)
  have ge : G'.get? e = none := g2 e (by simp)
  have old : ∀ b o, hp.get? b = some o → G'.get? b = some o := fun b o q => (gk b (Nat.ne_of_lt (Nat.lt_of_lt_of_le (Heap.lt_size q) M.new))).trans (M.keep b o q)
  have ob : ObjOk X.prog X.w (upd H1 d (.xd (xfs fs vs []))) G' d (.xd (xfs fs vs [])) :=
    ⟨_, hns.at (fun o q => (gk d M.dne).trans q), fun f => xfs_ok (acc := []) (m := fun _ => none) r1 (fun _ => True.intro) f⟩
  have J : Inv X pins σ (upd H1 d (.xd (xfs fs vs []))) ⟨G', g, dr, tk', os⟩ := I1.laid (t' := tk') old M.dbig ob
  refine ⟨e, oe, fv, ⟨G', g, dr, tk', os⟩, _, .ref C, some d, rfl, J, fun b o q => ?_, ge, hoe, ⟨hc, hd⟩, hdat, h1, ?_, rfl, I1.bare, raises_own T.exC T.tyC, q1 d (I1.hok.fresh M.dbig)⟩
  · by_cases hb : b = e
    · have q' : G'.get? b = some o := q
      rw [hb, ge] at q'
      cases q'
    · exact (gk b hb).symm.trans q
  · rw [upd_ne (Ne.symm M.dne)]
    exact I1.hok.fresh M.new
/-- raise C(e, ..) -/
def tRaiseSup (C : Addr) (fs : List Str) (P : List V → Prop) (W : WX) (ta : TA) : TS := fun _ σ H => tMkSup C fs P ta σ H fun cls d H' => W cls d σ H'
theorem ps_raiseSup {e : Expr} {es : List Expr} {ta : TA} {W : WX} {p pos pos2 : Pos} {k : Nat} (hc : X.calm = true) (T : PySem.SupX.SupCls X.prog X.w X.K X.mg x C fs P) (hr : Room k X.A) (tk : Takes X W) (ha : PA X (e :: es) ta) (hg : Gl X x := by rfl) (hx : (x == ("__debug__" : Str)) = false := by decide)
    (he : starEach (e :: es) X.env = (false, eval e X.env) :: starEach es X.env := by rfl) (hpl : (backTo pos (starEach es X.env)).any (·.1) = false := by rfl) :
    PS X (.Raise (some (.Call (.Name x p) (e :: es) [] pos)) none pos2) (tRaiseSup C fs P W ta) := ps_raise hc tk (pmk_sup T hr ha hg hx he hpl)
end
end L2
end
section
set_option Elab.async false
set_option linter.all false
set_option maxRecDepth 100000
set_option maxHeartbeats 2000000
/-! enumerate(t), t a tuple. -/
namespace PySem
theorem meets_enum_oneB {v : Value} {o : Obj} {H : Heap → Prop} (B : Begins v o H) :
    Meets (Builtin.«enumerate.__new__» ⟨[.type "enumerate", v], []⟩) (fun _ R s => H s.heap ∧
      R (.ok (.ret (.ref (s.heap.push o).objs.size))) { s with heap := (s.heap.push o).push { cls := .type "enumerate", data := .fields #[.none, .bool false, .ref s.heap.objs.size, rawInt 0, .none, .none] } }) :=
  .of_wp fun prog w A R s hh => by
    obtain ⟨hp, g, d, tk, os⟩ := s
    obtain ⟨hb, hr⟩ := hh
    have hsub := sub_enumerate
    have begun : ∀ {A' : Around} {E : Value → Shared → Prop} {Q : Value → Shared → Prop}, Q (.ref hp.objs.size) ⟨hp.push o, g, d, tk, os⟩ → wpAny (model prog w) A' (pyIter v) Q E ⟨hp, g, d, tk, os⟩ :=
      fun q => B.iter prog w _ _ ⟨hp, g, d, tk, os⟩ _ hb q
    wp_walk using begun
    refine wpAny_stack_any fun st => wpAny_pure ?_
    split
    · rename_i c _ _ _ _ _
      cases (c == Value.type "enumerate")
      all_goals
        wp_walk using begun
        exact ⟨_, rfl, hr⟩
    · wp_walk using begun
      exact ⟨_, rfl, hr⟩
section
variable {prog : Program} {w : World} {A : Around} {E : Value → Shared → Prop} {s : Shared}
theorem enum_begins1 {v : Value} {o : Obj} {H : Heap → Prop} {Q : Value → Shared → Prop} (B : Begins v o H) (h1 : H s.heap)
    (h : ∀ h', IsEnum h' (s.heap.objs.size + 1) s.heap.objs.size 0 .none → h'.get? s.heap.objs.size = some o → h'.objs.size = s.heap.objs.size + 2 →
      (∀ b o, s.heap.get? b = some o → h'.get? b = some o) → Q (.ref (s.heap.objs.size + 1)) { s with heap := h' }) :
    wpAny (model prog w) A (call (.type "enumerate") [v]) Q E s := by
  refine callType_new F.called_enumerate (by decide) (F.typeCall_enumerate_1 _) (F.newCall_enumerate_1 _) (fun obj => F.args_object_init_2 obj _) F.entry_enumerate_new (meets_enum_oneB B) ⟨h1, ?_⟩
  have hz : (s.heap.push o).objs.size = s.heap.objs.size + 1 := Heap.size_push ..
  show _ ∧ _
  rw [hz]
  have he : IsEnum ((s.heap.push o).push { cls := .type "enumerate", data := .fields #[.none, .bool false, .ref s.heap.objs.size, rawInt 0, .none, .none] }) (s.heap.objs.size + 1) s.heap.objs.size 0 .none := by
    have q := Heap.get?_push_size (s.heap.push o) (o := { cls := .type "enumerate", data := .fields #[.none, .bool false, .ref s.heap.objs.size, rawInt 0, .none, .none] }) rfl
    rw [hz] at q
    exact q
  exact ⟨⟨_, he, rfl⟩, h _ he (Heap.get?_push_of_some _ (Heap.get?_push_size _ B.free)) (by rw [Heap.size_push, hz]) fun b o x => Heap.get?_push_of_some _ (Heap.get?_push_of_some _ x)⟩
theorem enum_endT {e it l : Addr} {i : Nat} {items : Array Value} {c : Int} {old : Value} {Q : Option Value → Shared → Prop} (hh : A.in1.handled = none)
    (he : IsEnum s.heap e it c old) (hit : s.heap.IsTupleIter it l i) (hl : s.heap.IsTuple l items) (hx : items[i]? = none)
    (hQ : ∀ h', Heap.ExtBut it s.heap h' → Q none { s with heap := h' }) : wpAny (model prog w) A (pyNext (.ref e)) Q E s := by
  have ht : s.TypeIs (.ref e) "enumerate" := ⟨_, he, rfl⟩
  unfold pyNext
  refine wpAny_bind (wpAny_attempt (wpAny_callSpecial?_slot (name := Str.ofString "__next__") ht F.slot_enumerate_next
    (wpAny_call_entry F.slot_enumerate_next ht F.entry_enumerate_next ?_ (F.args_enumerate_next_1 _))))
  show wpAny _ _ (field (.ref e) 2 >>= _) _ _ _
  refine wpAny_bind (wpAny_field he rfl (x := .ref it) rfl (wpAny_bind (wpAny_nextOf_tuple_end hh hit hl hx fun h' x he' hx' => ?_)))
  obtain ⟨o, ho, hc⟩ := hx'
  refine wpAny_bind (wpAny_isInstance (T := "StopIteration") (b := true) ⟨o, ho, hc⟩ isSubtype_stop ?_)
  exact wpAny_pure (hQ _ he')
end
end PySem
namespace L2
open PySem PySem.Spec PyProof.Rows
/-- the tuple at a as it stands at each turn, each item in a new pair -/
def IteT (K : PySem.W.Frag) (a : Addr) : It :=
  ⟨fun i H => ∃ (xs : List V) (x : V), SqT K H a xs ∧ xs[i]? = some x, fun i H v H' => ∃ T x, v = .ref T ∧ H T = none ∧ H' = upd H T (.tup [.int (i : Nat), x]) ∧ ∀ xs, SqT K H a xs → xs[i]? = some x, fun i H => ∃ xs : List V, SqT K H a xs ∧ xs.length ≤ i⟩
theorem turn_enumT {P : Program} {w : World} {K : PySem.W.Frag} {elts : List Expr} {kk : Nat} {tpos : Pos} (a e it : Addr) (ha : a ≠ it) (hae : a ≠ e) :
    Turn P w K (.Tuple elts kk tpos) (IteT K a) [e, it] e (fun i h => (∃ old, IsEnum h e it ((i : Nat) : Int) old) ∧ h.IsTupleIter it a i ∧ e ≠ it) where
  mem := by simp
  obj := fun i h st b hb => by
    obtain ⟨⟨old, he⟩, ⟨o, ho, hc, hd⟩, _⟩ := st
    have e' : b = e ∨ b = it := by simpa using hb
    rcases e' with z | z
    · rw [z]; exact ⟨_, he, fun v q => nomatch q⟩
    · rw [z]; exact ⟨o, ho, fun v q => by rw [hd] at q; cases q⟩
  keep := fun i h h' st k => let ⟨⟨old, he⟩, hi, hne⟩ := st; ⟨⟨old, k e (by simp) _ he⟩, hi.at fun o q => k it (by simp) o q, hne⟩
  item := by
    intro X hP hw hK hc i pins s σ H E I hf st hg
    subst hP hw hK
    obtain ⟨⟨old, he⟩, hit, hne⟩ := st
    obtain ⟨xs, x, hq, hx⟩ := hg
    obtain ⟨its, rv, p, hz⟩ := I.tuple hq
    obtain ⟨u, hu, ru⟩ := rv.get hx
    have hil : i < its.toArray.size := by
      have z := (List.getElem?_eq_some_iff.mp hu).1
      simpa using z
    have D := Draws.tuple (prog := X.prog) (w := X.w) (A := X.A.in1) (I.ok.hd hc) it a ha its.toArray
    have hel : e < s.heap.objs.size := Heap.lt_size he
    have hill : it < s.heap.objs.size := by obtain ⟨_, q, _⟩ := hit; exact Heap.lt_size q
    refine wpAny_pyNext_enum_itemD D he ⟨hit, p⟩ hil hne (by simp [hne, Ne.symm hae]) fun x1 h' tk hP ho hit' hT hsz hk => ?_
    obtain rfl : x1 = u := by
      have z : its.toArray[i]? = some x1 := hP
      have z2 : its[i]? = some x1 := by simpa using z
      rw [hu] at z2
      exact (Option.some.inj z2).symm
    refine ⟨_, rfl, wpAny_letOwnedTupleGo_enum (s := { s with heap := h', toks := tk + 1 }) ho fun h'' he' sb => ?_⟩
    have hT2 : h''.get? s.heap.objs.size = some { cls := .type "tuple", data := .seq #[.int i tk, x1] } := (sb.2 _ (Nat.ne_of_gt hel)).trans hT
    have new : ObjOk X.prog X.w (upd H s.heap.objs.size (.tup [.int (i : Nat), x])) h'' s.heap.objs.size (.tup [.int (i : Nat), x]) :=
      ⟨by show 2 ≤ sizeLine; decide, [.int i tk, x1], .cons ⟨_, rfl⟩ (.cons ru .nil), ⟨_, hT2, rfl, _, rfl⟩⟩
    have I1 : Inv X pins σ (upd H s.heap.objs.size (.tup [.int (i : Nat), x])) { s with heap := h'', toks := tk + 1 } :=
      I.turnedNew (ch := [e, it]) (fun b ob hb q => (sb.2 b (fun z => hb (by simp [z]))).trans (hk b ob (fun z => hb (by simp [z])) (fun z => hb (by simp [z])) q)) hf (Nat.le_refl _) new
    refine ⟨.ref s.heap.objs.size, _, I1, rfl, ⟨_, x, rfl, I.hok.fresh (Nat.le_refl _), rfl, fun ys hy => by rw [I.tuple_inj hy hq]; exact hx⟩, ⟨⟨x1, ?_⟩, hit'.1.at fun o q => (sb.2 it (Ne.symm hne)).trans q, hne⟩, fun b hb => ?_⟩
    · have e1 : ((i + 1 : Nat) : Int) = (i : Int) + 1 := by omega
      rw [e1]; exact he'
    · have hb' : b < s.heap.objs.size := by
        have e' : b = e ∨ b = it := by simpa using hb
        rcases e' with z | z
        · rw [z]; exact hel
        · rw [z]; exact hill
      rw [upd_ne (Nat.ne_of_lt hb')]
      exact (hf b hb).1
  done := by
    intro X hP hw hK hc i pins s σ H E I hf st hg
    subst hP hw hK
    obtain ⟨⟨old, he⟩, hit, hne⟩ := st
    obtain ⟨xs, hq, hx⟩ := hg
    obtain ⟨its, rv, p, hz⟩ := I.tuple hq
    obtain ⟨f0, f1, f2, f3, f4, f5⟩ := hf it (by simp)
    have hl := rv.length
    exact enum_endT (I.ok.hd hc) he hit (show s.heap.IsTuple a its.toArray from p) (by simp; omega) fun h' eb => ⟨rfl, I.turned (t' := s.toks) (fun b o hb q => eb b o hb q) f0 f1 f3 f4 f5⟩
  self := fun A i s Q E st h => let ⟨⟨_, he⟩, _⟩ := st; wpAny_pyIter_enum he h
def iEnumT (K : PySem.W.Frag) (ta : TA) : TI := fun σ H R => ta σ H fun vs H1 => ∃ a xs, vs = [.ref a] ∧ SqT K H1 a xs ∧ R (IteT K a) H1
theorem pi_enumT {X : Cx} {e : Expr} {ta : TA} {p pos tpos : Pos} {elts : List Expr} {kk : Nat} (hg : Gl X "enumerate") (hm : X.mg "enumerate" = none) (ha : PA X [e] ta) (hs : starEach [e] X.env = [(false, eval e X.env)] := by rfl) :
    PI X (.Tuple elts kk tpos) (.Call (.Name "enumerate" p) [e] [] pos) (iEnumT X.K ta) := by
  refine ⟨fun pins s σ H R I h => ?_⟩
  refine Call_ (ld_blt I hg hm boot_enumerate (PyProof.Rows.callWith_type1 (thn (ha.run pos pins s σ H _ I h) fun us s1 ⟨vs, H1, I1, r1, q1⟩ => ?_) hs rfl))
  obtain ⟨a, xs, ex, hq, q⟩ := q1
  subst ex
  cases r1 with
  | cons r rr =>
    cases rr
    cases r
    obtain ⟨its, rv, p', hz⟩ := I1.tuple hq
    have hal : a < s1.heap.objs.size := by obtain ⟨_, z, _⟩ := p'; exact Heap.lt_size z
    refine enum_begins1 (begins_tuple a its.toArray) p' fun h' he hit hsz hk => wpAny_pyIter_enum he ?_
    have I2 : Inv X pins σ H1 { s1 with heap := h' } := I1.kept (t' := s1.toks) hk
    refine ⟨s1.heap.objs.size + 1, [s1.heap.objs.size + 1, s1.heap.objs.size], _, _, H1, rfl, I2, turn_enumT a (s1.heap.objs.size + 1) s1.heap.objs.size (Nat.ne_of_lt hal) (Nat.ne_of_lt (Nat.lt_succ_of_lt hal)), ⟨⟨.none, he⟩, ⟨_, hit, rfl, rfl⟩, Nat.succ_ne_self _⟩, fun b hb => ?_, q⟩
    have e' : b = s1.heap.objs.size + 1 ∨ b = s1.heap.objs.size := by simpa using hb
    have hle : s1.heap.objs.size ≤ b := by
      rcases e' with z | z
      · rw [z]; exact Nat.le_add_right _ _
      · rw [z]; exact Nat.le_refl _
    exact I1.fpOk hle (I1.hok.fresh hle)
end L2
end
section
set_option Elab.async false
set_option linter.all false
set_option maxRecDepth 100000
set_option maxHeartbeats 4000000
/-! What all laws of the yard lean on, over the hand layer. -/
namespace L2
open PySem PySem.Spec PyProof.Rows
section
variable {X : Cx}
/-! ### t * k, t not empty, 0 ≤ k -/
theorem tuple_mul0 (l : Addr) (items : Array Value) (n : Nat) (dd : Option Addr) (sl : Array (Option Value)) (x : Int) (u : Tok) (c0 : (decide (x < -(2 ^ 63)) || decide (x ≥ 2 ^ 63)) = false) (c1 : (items.isEmpty || x == 1) = false) (c2 : (decide (x ≤ 0) || items.isEmpty) = true) :
    Meets (Builtin.«tuple.__mul__» ⟨[.ref l, .int x u], []⟩) (fun _ R s => s.heap.get? l = some { cls := .type "tuple", dict := dd, data := .seq items n, slots := sl } ∧
      R (.ok (.ret (Value.ref s.heap.objs.size))) { s with heap := s.heap.push { cls := Value.type "tuple", data := Data.seq #[] }, toks := s.toks }) :=
  .of_wp fun prog w A R s h => by
    obtain ⟨hp, g, d, tk, os⟩ := s
    obtain ⟨hl, h⟩ := h
    have f1 := AutoSeq1.idx_int
    wp_walk using wpAny_loadPart' hl
    repeat (first
      | (refine wpAny_ite_false (decide_eq_false (by rw [c0]; exact Bool.false_ne_true)) ?_; wp_walk using wpAny_loadPart' hl)
      | (refine wpAny_ite_false (decide_eq_false (by rw [c1]; exact Bool.false_ne_true)) ?_; wp_walk using wpAny_loadPart' hl)
      | (refine wpAny_ite_true (decide_eq_true c2) ?_; wp_walk using wpAny_loadPart' hl))
    exact ⟨_, rfl, h⟩
theorem tuple_mul1 (l : Addr) (items : Array Value) (n : Nat) (sl : Array (Option Value)) (dd : Option Addr) (x : Int) (u : Tok) (c0 : (decide (x < -(2 ^ 63)) || decide (x ≥ 2 ^ 63)) = false) (c1 : (items.isEmpty || x == 1) = true) :
    Meets (Builtin.«tuple.__mul__» ⟨[.ref l, .int x u], []⟩) (fun _ R s => s.heap.get? l = some { cls := .type "tuple", dict := dd, data := .seq items n, slots := sl } ∧ R (.ok (.ret (Value.ref l))) s) :=
  .of_wp fun prog w A R s h => by
    obtain ⟨hp, g, d, tk, os⟩ := s
    obtain ⟨hl, h⟩ := h
    have f1 := AutoSeq1.idx_int
    wp_walk using wpAny_loadPart' hl
    repeat (first
      | (refine wpAny_ite_false (decide_eq_false (by rw [c0]; exact Bool.false_ne_true)) ?_; wp_walk using wpAny_loadPart' hl)
      | (refine wpAny_ite_true (decide_eq_true c1) ?_; wp_walk using wpAny_loadPart' hl))
    exact ⟨_, rfl, h⟩
def rRepG (K : PySem.W.Frag) : R2 := fun x y H Q => ∃ l k xs, x = .ref l ∧ y = .int k ∧ SqT K H l xs ∧ xs ≠ [] ∧ 0 ≤ k ∧ k ≤ 4000 ∧ xs.length ≤ 100 ∧ (k = 1 → Q (.ref l) H) ∧ (k ≠ 1 → ∀ p, H p = none → Q (.ref p) (upd H p (.tup (List.replicate k.toNat xs).flatten)))
theorem op_repG : OpR X (binaryOp .Mult) (rRepG X.K) := by
  intro pins s σ H x y v u Q I rx ry h
  obtain ⟨l, k, xs, rfl, rfl, hT, hne, h1, h2, hz, qs, qn⟩ := h
  cases rx
  obtain ⟨t, rfl⟩ := ry
  obtain ⟨its, r, ⟨⟨cls, dd, data, sl⟩, ho, hc, n, hd⟩, hs⟩ := I.tuple hT
  simp only at hc hd
  subst hc hd
  have hle : its.length = xs.length := r.length.symm
  have hn : its ≠ [] := fun e => hne (by
    rw [e] at hle
    exact List.eq_nil_of_length_eq_zero hle.symm)
  have hi : its.toArray.isEmpty = false := by
    cases its with
    | nil => exact absurd rfl hn
    | cons a b => rfl
  have hsz0 : its.toArray.size = xs.length := by rw [List.size_toArray, hle]
  have c0 : (decide (k < -(2 ^ 63)) || decide (k ≥ 2 ^ 63)) = false := by
    rw [decide_eq_false (by omega), decide_eq_false (by omega)] <;> rfl
  by_cases e1 : k = 1
  · have c1 : (its.toArray.isEmpty || k == 1) = true := by
      rw [hi, Bool.false_or]
      exact beq_iff_eq.mpr e1
    refine wpAny_binaryOp_repeat_ref (T := "tuple") (U := "int") (by decide) ⟨_, ho, rfl⟩ (fun s' => typeIs_int s' k t) noFill_tuple_mul F.fills_int_mul F.slot_int_rmul repeat_tuple F.slot_int_index.lookup
      (call_meets F.slot_int_rmul (typeIs_int s k t) F.entry_int_rmul (F.args_int_rmul_2 _ _) (int_rmul_tuple k t l its.toArray n dd sl)
        ⟨ho, rfl, ⟨_, ho, rfl⟩, call_meets F.slot_tuple_mul ⟨_, ho, rfl⟩ F.entry_tuple_mul (F.args_tuple_mul_2 _ _) (tuple_mul1 l its.toArray n sl dd k t c0 c1) ⟨ho, ?_⟩⟩)
    exact ⟨.ref l, H, I, rfl, qs e1⟩
  · have c1 : (its.toArray.isEmpty || k == 1) = false := by
      rw [hi, Bool.false_or]
      exact beq_eq_false_iff_ne.mpr e1
    by_cases e0 : k = 0
    · subst e0
      refine wpAny_binaryOp_repeat_ref (T := "tuple") (U := "int") (by decide) ⟨_, ho, rfl⟩ (fun s' => typeIs_int s' 0 t) noFill_tuple_mul F.fills_int_mul F.slot_int_rmul repeat_tuple F.slot_int_index.lookup
        (call_meets F.slot_int_rmul (typeIs_int s 0 t) F.entry_int_rmul (F.args_int_rmul_2 _ _) (int_rmul_tuple 0 t l its.toArray n dd sl)
          ⟨ho, rfl, ⟨_, ho, rfl⟩, call_meets F.slot_tuple_mul ⟨_, ho, rfl⟩ F.entry_tuple_mul (F.args_tuple_mul_2 _ _) (tuple_mul0 l its.toArray n dd sl 0 t c0 c1 rfl) ⟨ho, ?_⟩⟩)
      refine ⟨.ref s.heap.objs.size, _, I.laid (t' := s.toks) (o := .tup (List.replicate (0 : Int).toNat xs).flatten) (fun b ob q => Heap.get?_push_of_some _ q) (Nat.le_refl _) ?_, rfl, qn (by decide) _ (I.hok.fresh (Nat.le_refl _))⟩
      exact ⟨by rw [sizeLine_eq]; exact Nat.zero_le _, [], .nil, IsTup.new _ _⟩
    · have hm : ((its.toArray.size : Nat) : Int) * k ≤ 400000 := by
        rw [hsz0]
        have a1 : ((xs.length : Nat) : Int) * k ≤ 100 * k := Int.mul_le_mul_of_nonneg_right (by omega) (by omega)
        omega
      have flen : (List.replicate k.toNat its).flatten.length ≤ sizeLine := by
        rw [PyProof.Rows.lm_len_rep_flat, hle, sizeLine_eq]
        have a1 : k.toNat * xs.length ≤ 4000 * 100 := Nat.mul_le_mul (by omega) hz
        omega
      have c2 : (decide (k ≤ 0) || its.toArray.isEmpty) = false := by
        rw [hi, Bool.or_false]
        exact decide_eq_false (by omega)
      have c4 : Builtin.Tuple.tupleTooMany (((its.toArray.size : Nat) : Int) * k) = false := by
        unfold Builtin.Tuple.tupleTooMany
        rw [sizeLine_eq]
        exact decide_eq_false (by omega)
      refine wpAny_binaryOp_repeat_ref (T := "tuple") (U := "int") (by decide) ⟨_, ho, rfl⟩ (fun s' => typeIs_int s' k t) noFill_tuple_mul F.fills_int_mul F.slot_int_rmul repeat_tuple F.slot_int_index.lookup
        (call_meets F.slot_int_rmul (typeIs_int s k t) F.entry_int_rmul (F.args_int_rmul_2 _ _) (int_rmul_tuple k t l its.toArray n dd sl)
          ⟨ho, rfl, ⟨_, ho, rfl⟩, call_meets F.slot_tuple_mul ⟨_, ho, rfl⟩ F.entry_tuple_mul (F.args_tuple_mul_2 _ _) (tuple_mulW l its.toArray n dd sl k t c0 c1 c2 (by omega) c4 (by rw [size_rep, List.size_toArray]; exact flen)) ⟨ho, ?_⟩⟩)
      rw [size_rep]
      refine ⟨.ref s.heap.objs.size, _, I.laid (t' := s.toks) (o := .tup (List.replicate k.toNat xs).flatten) (fun b ob q => Heap.get?_push_of_some _ q) (Nat.le_refl _) ?_, rfl, qn e1 _ (I.hok.fresh (Nat.le_refl _))⟩
      exact ⟨by rw [PyProof.Rows.lm_len_rep_flat, sizeLine_eq]; have a1 : k.toNat * xs.length ≤ 4000 * 100 := Nat.mul_le_mul (by omega) hz; omega, _, r.rep k.toNat, IsTup.new _ _⟩

/-! ### t.count(x), t a tuple of texts -/
def eqs (z : Str) (v : Value) : Bool := match v with
  | .str y _ => y == z
  | _ => false
theorem eqs_count {z : Str} : ∀ {ys : List Str} {us : List Value}, Vals (ys.map V.str) us → us.countP (eqs z) = ys.count z
  | [], _, .nil => rfl
  | y :: ys, _, .cons r rt => by
    obtain ⟨t, rfl⟩ := r
    have ih := eqs_count (z := z) rt
    rw [List.countP_cons, List.count_cons, ih]
    rfl
theorem eqs_at {A : Around} {s : Shared} {z : Str} {t : Tok} : ∀ {ys : List Str} {us : List Value}, Vals (ys.map V.str) us → ∀ y ∈ us, SeqAt.EqAt A s y (.str z t) (eqs z y)
  | [], _, .nil, _, h => nomatch h
  | y :: ys, _, .cons r rt, u, h => by
    rcases List.mem_cons.mp h with e | e
    · subst e
      obtain ⟨k, rfl⟩ := r
      exact SeqAt.EqAt.str_str y k z t
    · exact eqs_at rt u e
def rCntT (K : PySem.W.Frag) : V → List V → Hp → VK → Prop := fun x xs H Q => ∃ (p : Addr) (ys : List Str) (z : Str), x = .ref p ∧ xs = [.str z] ∧ SqT K H p (ys.map V.str) ∧ Q (.int (ys.count z : Nat)) H
theorem mt_tcount : MtR X "tuple.count" (rCntT X.K) := by
  intro pins s σ H x xs v us Q I rx rxs h
  obtain ⟨p, ys, z, rfl, rfl, hs, q⟩ := h
  cases rx
  obtain ⟨u, rfl, ru⟩ := rxs.one
  obtain ⟨t, rfl⟩ := ru
  obtain ⟨its, rv, ⟨⟨cls, dd, data, sl⟩, ho, hc, n, hd⟩, hlen⟩ := I.tuple hs
  simp only at hc hd
  subst hc hd
  refine call_meets PySem.F.slot_tuple_count ⟨_, ho, rfl⟩ PySem.F.entry_tuple_count (PySem.F.args_tuple_count_2 _ _)
    (SeqAt.tuple_countAt p its.toArray n dd sl (.str z t) (eqs z)) ⟨ho, fun y hy => eqs_at rv y (by simpa using hy), ?_⟩
  have ec : its.toArray.toList.countP (eqs z) = ys.count z := eqs_count rv
  refine ⟨.int (ys.count z : Nat), H, I.tok _, ⟨s.toks, ?_⟩, q⟩
  show Value.int ((its.toArray.toList.countP (eqs z) : Nat) : Int) s.toks = Value.int ((ys.count z : Nat) : Int) s.toks
  rw [ec]

/-! ### f(e, ..), f a def of the module by its positional promise -/
def tCallR (sp : Sp) (E : XK) (t : TA) : TE := fun σ H Q => t σ H fun vs H1 => sp vs H1 Q E
theorem pe_callR {CX : CXT} {k : Nat} {f : Addr} {x : Str} {sp : Sp} {E : XK} {e : Expr} {es : List Expr} {t : TA} {p pos : Pos} (F : FnR X.prog X.w X.K X.mg X.base CX k f sp) (hr : Room k X.A) (hk : PySem.W.keepIn X.K (.ref f) = true) (hm : X.mg x = some (.ref f)) (hx : Passes CX X E) (ha : PA X (e :: es) t)
    (hg : Gl X x) (hd : (x == ("__debug__" : Str)) = false)
    (he : starEach (e :: es) X.env = (false, eval e X.env) :: starEach es X.env) (hpl : (backTo pos (starEach es X.env)).any (·.1) = false) :
    PE X (.Call (.Name x p) (e :: es) [] pos) (tCallR sp E t) := by
  refine ⟨fun pins s σ H Q I h => ?_⟩
  refine wpAny_Call_Name_kw (ld_glob I hg hm ?_ hd)
  refine PySem.W.callWith_K (h₀ := X.base) I.ok.mod.kin hk (thn (ha.run pos pins s σ H _ I h) fun us s1 ⟨vs, H1, I1, r, q⟩ => ⟨I1.kIn, ?_⟩) he hpl
  exact wpAny_call (run_fnR F hr hx I1 r q)
end
end L2
namespace Sh
open PySem PySem.Spec PyProof.Rows L2
/-! ### a def of the module keeps a promise -/
def DefOk (P : Program) (w : World) (K : PySem.W.Frag) (mg : Str → Option Value) (base : Heap) (CX : CXT) (k : Nat) (x : Str) (sp : Sp) : Prop :=
  ∃ f, mg x = some (.ref f) ∧ PySem.W.keepIn K (.ref f) = true ∧ FnR P w K mg base CX k f sp
/-- where a def stands -/
def Def0 (K : PySem.W.Frag) (mg : Str → Option Value) (x : Str) (st : Stmt) : Prop := ∃ f fd, mg x = some (.ref f) ∧ FunD K x x (defArgs st) (defBody st) (defScope st) [] [] f fd
section
variable {P : Program} {w : World} {K : PySem.W.Frag} {mg : Str → Option Value} {base : Heap} {k j : Nat} {x : Str} {sp : Sp} {st : Stmt}
theorem DefOk.mono {CX : CXT} (D : DefOk P w K mg base CX j x sp) (h : j ≤ k) : DefOk P w K mg base CX k x sp := by
  obtain ⟨f, a, b, c⟩ := D
  exact ⟨f, a, b, c.mono h⟩
theorem DefOk.imp {CX : CXT} {sp' : Sp} (D : DefOk P w K mg base CX k x sp) (h : ∀ vs H Q E, sp' vs H Q E → sp vs H Q E) : DefOk P w K mg base CX k x sp' := by
  obtain ⟨f, a, b, c⟩ := D
  exact ⟨f, a, b, c.imp h⟩
theorem pe_d {X : Cx} {CX : CXT} {E : XK} {e : Expr} {es : List Expr} {t : TA} {p pos : Pos} (D : DefOk X.prog X.w X.K X.mg X.base CX k x sp) (hr : Room k X.A) (hx : Passes CX X E) (ha : PA X (e :: es) t)
    (hg : Gl X x := by rfl) (hd : (x == ("__debug__" : Str)) = false := by decide)
    (he : starEach (e :: es) X.env = (false, eval e X.env) :: starEach es X.env := by rfl) (hpl : (backTo pos (starEach es X.env)).any (·.1) = false := by rfl) :
    PE X (.Call (.Name x p) (e :: es) [] pos) (tCallR sp E t) := by
  obtain ⟨f, a, b, c⟩ := D
  exact pe_callR c hr b a hx ha hg hd he hpl
/-- a def without defaults that raises nothing -/
theorem Def0.ok {N ps : List Str} (D : Def0 K mg x st) (S : FnScope N ps (defScope st)) (len : ∀ vs H Q E, sp vs H Q E → vs.length = ps.length)
    (hb : ∀ (kV doc pm : Value) (an : Option Addr) (cdv ct : Value) (us : List Value), us.length = ps.length → bindArgs (PySem.W.fnOf x x (defArgs st) (defBody st) (defScope st) .none kV doc pm an cdv ct) ⟨us, []⟩ = pure (ps.zip us))
    (hbody : ∀ (f : Addr) (cdv : Value) (A : Around) (outer : List Env) (s : Shared) (H : Hp) (vs : List V) (Q : VK) (E : XK), Room k (A.deeper (envOfC x (defScope st) s.heap.objs.size f cdv)) → sp vs H Q E →
      ∃ t, PSs (cxOf CX0 P w K mg base N x (defScope st) f cdv A outer s H E).nox (defBody st) t ∧ t { nx := fun _ H' => Q .non H', rt := Q } (start N vs) H) : DefOk P w K mg base CX0 (k + 1) x sp := by
  obtain ⟨f, fd, hm, F⟩ := D
  have G : FnOk P w K mg base CX0 (k + 1) f fd ps sp := F.ok S len fun cdv A outer s H vs Q E hr h => by
    obtain ⟨t, a, b⟩ := hbody f cdv A outer s H vs Q E hr h
    exact ⟨t, a.nox, b⟩
  have B : Binds K fd ps [] := F.bindsN hb
  refine ⟨f, hm, F.kp, fun A outer s H us vs Q E hr e0 r hs => G.raw B .nil A outer s H us vs Q E hr e0 r (by show sp (vs ++ []) H Q E; rw [List.append_nil]; exact hs)⟩
/-- a def without defaults that may raise -/
theorem Def0.okX {N ps : List Str} (D : Def0 K mg x st) (S : FnScope N ps (defScope st)) (len : ∀ vs H Q E, sp vs H Q E → vs.length = ps.length)
    (hb : ∀ (kV doc pm : Value) (an : Option Addr) (cdv ct : Value) (us : List Value), us.length = ps.length → bindArgs (PySem.W.fnOf x x (defArgs st) (defBody st) (defScope st) .none kV doc pm an cdv ct) ⟨us, []⟩ = pure (ps.zip us))
    (hbody : ∀ (f : Addr) (cdv : Value) (A : Around) (outer : List Env) (s : Shared) (H : Hp) (vs : List V) (Q : VK) (E : XK), Room k (A.deeper (envOfC x (defScope st) s.heap.objs.size f cdv)) → sp vs H Q E →
      ∃ t, PSs (cxOf (L2.CX P w) P w K mg base N x (defScope st) f cdv A outer s H E) (defBody st) t ∧ t { nx := fun _ H' => Q .non H', rt := Q } (start N vs) H) : DefOk P w K mg base (L2.CX P w) (k + 1) x sp := by
  obtain ⟨f, fd, hm, F⟩ := D
  have G : FnOk P w K mg base (L2.CX P w) (k + 1) f fd ps sp := F.ok S len fun cdv A outer s H vs Q E hr h => by
    obtain ⟨t, a, b⟩ := hbody f cdv A outer s H vs Q E hr h
    exact ⟨t, a, b⟩
  have B : Binds K fd ps [] := F.bindsN hb
  refine ⟨f, hm, F.kp, fun A outer s H us vs Q E hr e0 r hs => G.raw B .nil A outer s H us vs Q E hr e0 r (by show sp (vs ++ []) H Q E; rw [List.append_nil]; exact hs)⟩
end
end Sh
end
section
set_option Elab.async false
set_option linter.all false
set_option maxRecDepth 100000
set_option maxHeartbeats 2000000
set_option autoImplicit false
/-! Tuples whose object is known to have no dict: how they are made, and their methods. -/
namespace L2
open PySem PySem.Spec PyProof.Rows
/-- a tuple that is followed -/
def Tq (H : Hp) (a : Addr) (xs : List V) : Prop := Rd H a (.tup xs)
/-- .. whose object has no dict -/
def Tz (H : Hp) (a : Addr) (xs : List V) : Prop := ∃ o, H a = some (.frz o (.tup xs)) ∧ o.dict = none
theorem Tq.of {H : Hp} {a : Addr} {xs : List V} (h : H a = some (.tup xs)) : Tq H a xs := .inl h
theorem Tq.sq {K : PySem.W.Frag} {H : Hp} {a : Addr} {xs : List V} (h : Tq H a xs) : SqT K H a xs := .inl h
theorem Tq.same {H H' : Hp} {a : Addr} {xs : List V} (h : Tq H a xs) (s : ∀ b o, H b = some o → H' b = some o) : Tq H' a xs := by
  rcases h with h | ⟨o, h⟩
  · exact .inl (s _ _ h)
  · exact .inr ⟨o, s _ _ h⟩
theorem Tz.q {H : Hp} {a : Addr} {xs : List V} (h : Tz H a xs) : Tq H a xs := by
  obtain ⟨o, h, _⟩ := h
  exact .inr ⟨o, h⟩
theorem Tz.same {H H' : Hp} {a : Addr} {xs : List V} (h : Tz H a xs) (s : ∀ b o, H b = some o → H' b = some o) : Tz H' a xs := by
  obtain ⟨o, h, d⟩ := h
  exact ⟨o, s _ _ h, d⟩
theorem Tq.ne_none {H : Hp} {a p : Addr} {xs : List V} (h : Tq H a xs) (hp : H p = none) : a ≠ p := by
  rcases h with h | ⟨o, h⟩
  · exact ne_of_none h hp
  · exact ne_of_none h hp
/-- followed tuples stay -/
def TQ (H H' : Hp) : Prop := ∀ t xs, Tq H t xs → Tq H' t xs
theorem TQ.refl (H : Hp) : TQ H H := fun _ _ h => h
theorem TQ.trans {H H1 H2 : Hp} (x : TQ H H1) (y : TQ H1 H2) : TQ H H2 := fun t xs h => y t xs (x t xs h)
theorem TQ.of_same {H H' : Hp} (s : ∀ b o, H b = some o → H' b = some o) : TQ H H' := fun t xs q => q.same s
theorem TQ.new {H : Hp} {p : Addr} {o : HO} (h : H p = none) : TQ H (upd H p o) := fun t xs q => by
  have n := q.ne_none h
  rcases q with q | ⟨o, q⟩
  · exact .inl (by rw [upd_ne n]; exact q)
  · exact .inr ⟨o, by rw [upd_ne n]; exact q⟩
theorem TQ.lst {H : Hp} {p : Addr} {ys : List V} {o : HO} (h : H p = some (.lst ys)) : TQ H (upd H p o) := fun t xs q => by
  rcases q with q | ⟨o, q⟩
  · exact .inl (by rw [upd_ne (ne_of q h (by intro e; cases e))]; exact q)
  · exact .inr ⟨o, by rw [upd_ne (ne_of q h (by intro e; cases e))]; exact q⟩
section
variable {X : Cx}
/-- tuple(list) -/
def rTupF (K : PySem.W.Frag) : List V → Hp → VK → Prop := fun xs H Q => ∃ p ys, xs = [.ref p] ∧ SqL K H p ys ∧ ∀ l o, H l = none → o.dict = none → Q (.ref l) (upd H l (.frz o (.tup ys)))
theorem call_tupleF : CallR X (.type "tuple") (rTupF X.K) := by
  intro pins s σ H xs us Q I r h
  obtain ⟨p, ys, rfl, hq, q⟩ := h
  obtain ⟨u, rfl, rx⟩ := vals1 r
  cases rx
  obtain ⟨its, r', pl, hz⟩ := I.list hq
  have hlen := r'.length
  refine call_tuple_list pl.isList (fun h' kp => ?_) (by simp only [List.size_toArray] <;> omega)
  have I1 : Inv X pins σ H { s with heap := h' } := I.kept (t' := s.toks) kp
  have I2 : Inv X pins σ (upd H h'.objs.size (.frz { cls := .type "tuple", data := .seq its.toArray } (.tup ys))) { s with heap := h'.push { cls := .type "tuple", data := .seq its.toArray } } :=
    I1.laid (t' := s.toks) (fun b o e => Heap.get?_push_of_some _ e) (Nat.le_refl _) (show ObjOk X.prog X.w _ _ _ (.frz _ (.tup ys)) from ⟨Heap.get?_push_size _ rfl, hz, its, r', IsTup.new _ _⟩)
  exact ⟨.ref h'.objs.size, _, I2, rfl, q _ _ (I1.hok.fresh (Nat.le_refl _)) rfl⟩
/-- t + u, u not empty -/
def rCatF (K : PySem.W.Frag) : R2 := fun x y H Q => ∃ a b xs ys, x = .ref a ∧ y = .ref b ∧ SqT K H a xs ∧ SqT K H b ys ∧ ys ≠ [] ∧ xs.length + ys.length ≤ sizeLine ∧
  (xs = [] → Q (.ref b) H) ∧ (xs ≠ [] → ∀ p o, H p = none → o.dict = none → Q (.ref p) (upd H p (.frz o (.tup (xs ++ ys)))))
theorem op_catF : OpR X (binaryOp .Add) (rCatF X.K) := by
  intro pins s σ H x y v u Q I rx ry h
  obtain ⟨a, b, xs, ys, rfl, rfl, ha, hb, hy, hz, q0, q2⟩ := h
  by_cases hx : xs = []
  · exact op_catA pins s σ H _ _ v u Q I rx ry ⟨a, b, xs, ys, rfl, rfl, ha, hb, hz, q0, fun h => absurd hx h, fun h => absurd hx h⟩
  cases rx
  cases ry
  obtain ⟨its, r1, p1, _⟩ := I.tuple ha
  obtain ⟨its2, r2, p2, _⟩ := I.tuple hb
  refine HT.cat_tup p1 p2 (fun z => hx (r1.nil_iff.mp z)) (fun z => absurd (r2.nil_iff.mp z) hy) (fun z => ?_) (by rw [← r1.length, ← r2.length]; exact hz)
  refine ⟨.ref s.heap.objs.size, _, I.laid (t' := s.toks) (o := .frz { cls := .type "tuple", data := .seq (its ++ its2).toArray } (.tup (xs ++ ys))) (fun b ob q => Heap.get?_push_of_some _ q) (Nat.le_refl _) ?_, rfl, q2 hx _ _ (I.hok.fresh (Nat.le_refl _)) rfl⟩
  exact ⟨Heap.get?_push_size _ rfl, by rw [List.length_append]; exact hz, _, r1.append r2, IsTup.new _ _⟩
/-- (a, b) -/
def tTupF (t : TA) : TE := fun σ H Q => t σ H fun xs H1 => xs.length ≤ sizeLine ∧ ∀ p o, H1 p = none → o.dict = none → Q (.ref p) (upd H1 p (.frz o (.tup xs)))
theorem pe_tupF {es : List Expr} {x1 : Nat} {t : TA} {pos : Pos} (h : PA X es t) : PE X (.Tuple es x1 pos) (tTupF t) := by
  refine ⟨fun pins s σ H Q I hq => ?_⟩
  refine wpAny_Tuple_spliced (thn (h.run pos pins s σ H _ I hq) fun us s1 ⟨xs, H1, I1, r, z, q⟩ => ⟨by rw [← r.length]; exact z, ?_⟩)
  have hf : H1 s1.heap.objs.size = none := I1.hok.fresh (Nat.le_refl _)
  refine ⟨.ref s1.heap.objs.size, upd H1 s1.heap.objs.size (.frz { cls := .type "tuple", data := .seq us.toArray } (.tup xs)), I1.laid (t' := s1.toks) (fun b u e => Heap.get?_push_of_some _ e) (Nat.le_refl _) ?_, rfl, q _ _ hf rfl⟩
  exact ⟨Heap.get?_push_size _ rfl, z, us, r, ⟨_, Heap.get?_push_size _ rfl, rfl, _, rfl⟩⟩
/-- a method of it -/
def tyZ (x : V) (H : Hp) : Prop := ∃ a xs, x = .ref a ∧ Tz H a xs
theorem ty_Z : TyOk X "tuple" tyZ := by
  intro pins σ H s x v I r ty
  obtain ⟨a, xs, rfl, o, ho, hd⟩ := ty
  cases r
  obtain ⟨e, _, its, _, ⟨o2, e2, c, _⟩⟩ := I.hok a _ ho
  rw [e] at e2
  cases e2
  exact ⟨⟨o, e, c⟩, fun b eb => by cases eb; exact ⟨o, e, hd⟩⟩
end
end L2
end
section
set_option Elab.async false
set_option linter.all false
set_option maxRecDepth 100000
set_option maxHeartbeats 2000000
set_option autoImplicit false
/-! try with a first clause that has a name and takes what comes, whatever clauses follow. -/
namespace L2
open PySem PySem.Spec PyProof.Rows
/-- an exception that lies in the state s at hand, ahead of the clauses -/
structure Caught (X : Cx) (pins : List (Addr × Obj)) (σ : St) (H : Hp) (s : Shared) (a : Addr) (cls : Value) (d : Option Addr) : Prop where
  na : H a = none
  fly : ∃ B, HandSPX.FlyingZ B (X.env :: X.outer) a (Zc cls d) s.heap ∧ ∀ h, HandSPX.FlyingZ B (X.env :: X.outer) a (Zc cls d) h → s.heap.UpToSlots h → Inv X pins σ H { s with heap := h }
section
variable {X : Cx} {pins : List (Addr × Obj)} {σ : St} {H : Hp} {s : Shared} {a : Addr} {cls : Value} {d : Option Addr}
/-- into the suite of a clause -/
theorem suite_of {B : Heap} (hf : X.env.frame = some X.env.locals) (fl : HandSPX.FlyingZ B (X.env :: X.outer) a (Zc cls d) s.heap) (I : Inv X pins σ H s) (na : H a = none) :
    ∃ oe, (∃ vs, oe.data = .fields vs) ∧ s.heap.get? a = some oe ∧ Zc cls d oe ∧ Inv (X.suite a ((a, oe) :: (X.pn ++ pins))) [] σ H s := by
  obtain ⟨oe, vs, he, hz, hd⟩ := fl.there
  have off : ∀ f ∈ frs (X.env :: X.outer), a ≠ f := fun f hm e => by
    subst e
    obtain ⟨_, o, e2, nf⟩ := fl.2.2.1.mem hm
    rw [he] at e2
    cases e2
    exact nf _ hd
  refine ⟨oe, ⟨vs, hd⟩, he, hz, I.suite he hd na (off _ (List.mem_filterMap.mpr ⟨X.env, List.mem_cons_self, hf⟩)) fun hm => ?_⟩
  obtain ⟨en, hen, q⟩ := List.mem_filterMap.mp hm
  exact off a (List.mem_filterMap.mpr ⟨en, List.mem_cons_of_mem _ hen, q⟩) rfl
/-- a try statement by what its clauses do with what is caught -/
theorem ps_try_by {body : List Stmt} {hds : List ExceptHandler} {h₀ : ExceptHandler} {pos : Pos} {tb : WX → TS} {Wd : Ends → WX} (hs : X.stack = X.env :: X.outer) (hf : X.env.frame = some X.env.locals)
    (hb : ∀ (W : WX) (pn : List (Addr × Obj)) (xe : Value → Shared → Prop), Takes (X.tr pn xe) W → PassesOwn (model X.prog X.w) X.A X.env xe → PSs (X.tr pn xe) body (tb W))
    (hk : ∀ (pins : List (Addr × Obj)) (D : Ends) (σ : St) (H : Hp) (s : Shared) (a : Addr) (cls : Value) (d : Option Addr), X.Ok → Caught X pins σ H s a cls d → Wd D cls d σ H →
      wpAny (model X.prog X.w) X.A (handleBy (.ref a) X.env (h₀ :: hds)) (SP X pins D) X.xe s) :
    PS X (.Try body (h₀ :: hds) [] [] pos) (fun D σ H => tb (Wd D) D σ H) := by
  refine ⟨fun pins s σ H D I h => wpAny_Try_except ?_⟩
  have ok := I.ok
  have hfr : X.A.frames = some (X.env :: X.outer) := by rw [ok.frames, hs]
  have P := (hb (Wd D) (X.pn ++ pins) (fun e s₁ => wpAny (model X.prog X.w) X.A (noteFrame e X.env) (fun _ s₂ => wpAny (model X.prog X.w) X.A (setFlight e none) (fun _ s₃ =>
    wpAny (model X.prog X.w) X.A (handleBy e X.env (h₀ :: hds)) (SP X pins D) X.xe s₃) X.xe s₂) X.xe s₁) (fun u s' xx => by
      obtain ⟨a, B, sI, pins', σ', H', cls, d, rfl, J', nb, up, sky, na, os, ag, w⟩ := xx
      have sky' : Sky B (X.env :: X.outer) a (Zc cls d) X.env.locals s'.heap := by rw [← hs]; exact sky
      refine Sky.land Zc.steady hfr hf sky' fun h3 fl3 up3 => hk pins D σ' H' { s' with heap := h3 } a cls d ok ⟨na, B, fl3, fun h fl up4 => ?_⟩ w
      exact (J'.ofTry ok).landed nb fl.1 ((up.trans up3).trans up4) os ag) PassesOwn.looking).run [] s σ H D (I.toTry _) h
  refine wpAny_mono P (fun f s1 hsp => ?_) fun _ _ he => he
  cases f with
  | ret u =>
    obtain ⟨v, σ', H', J', r, q⟩ := hsp
    exact ⟨v, σ', H', J'.ofTry ok, r, q⟩
  | next =>
    obtain ⟨σ', H', J', q⟩ := hsp
    exact wpAny_execs_nil ⟨σ', H', J'.ofTry ok, q⟩
  | brk =>
    obtain ⟨σ', H', J', q⟩ := hsp
    exact ⟨σ', H', J'.ofTry ok, q⟩
  | cont =>
    obtain ⟨σ', H', J', q⟩ := hsp
    exact ⟨σ', H', J'.ofTry ok, q⟩
/-- the wish of a first clause 'except x as n' that takes it -/
def wFirst (K : PySem.W.Frag) (c : Value) (i : Nat) (ts : Addr → Value → Option Addr → TS) (D : Ends) : WX := fun cls d σ H =>
  PySem.W.exmOne K cls c = some true ∧ ∀ a, H a = none → ts a cls d { nx := fun σ' H' => D.nx (σ'.set i none) H', rt := D.rt, bk := fun σ' H' => D.bk (σ'.set i none) H', ct := fun σ' H' => D.ct (σ'.set i none) H' } (σ.set i (some (.ref a))) H
theorem ps_try_first {x n : Str} {c : Value} {i : Nat} {body suite : List Stmt} {b₀ : Stmt} {np pos pos' : Pos} {hds : List ExceptHandler} {tb : WX → TS} {ts : Addr → Value → Option Addr → TS} (hs : X.stack = X.env :: X.outer) (hf : X.env.frame = some X.env.locals) (hN : X.N.Nodup) (hi : X.N[i]? = some n) (hln : X.env.kindOf n = some .local) (hc : Names X x c)
    (hb : ∀ (W : WX) (pn : List (Addr × Obj)) (xe : Value → Shared → Prop), Takes (X.tr pn xe) W → PassesOwn (model X.prog X.w) X.A X.env xe → PSs (X.tr pn xe) body (tb W))
    (hsu : ∀ (a : Addr) (oe : Obj) (cls : Value) (d : Option Addr) (pn : List (Addr × Obj)), Zc cls d oe → (∃ vs, oe.data = .fields vs) → PSs (X.suite a ((a, oe) :: pn)) (b₀ :: suite) (ts a cls d)) :
    PS X (.Try body (.ExceptHandler (some (.Name x np)) (some n) (b₀ :: suite) pos' :: hds) [] [] pos) (fun D σ H => tb (wFirst X.K c i ts D) D σ H) := by
  refine ps_try_by (Wd := wFirst X.K c i ts) hs hf hb fun pins D σ H s a cls d ok C w => ?_
  obtain ⟨na, B, fl, back⟩ := C
  obtain ⟨hm, hw⟩ := w
  have I0 : Inv X pins σ H s := back s.heap fl (fun b o e _ => ⟨o.slots, e⟩)
  obtain ⟨oe, hd, he, hz, S⟩ := suite_of hf fl I0 na
  refine wpAny_handleBy_cons (codeAny_handlers_test ?_) (by intro q; cases q)
  have look : PySem.W.Looks (model X.prog X.w) s.heap (typeOf (.ref a)) cls := fun A Q E s k q => wpAny_typeOf_ref (k _ _ he) (by rw [hz.1]; exact q)
  have name : ∀ {Q : Value → Shared → Prop} {E : Value → Shared → Prop}, Q c s → wpAny (model X.prog X.w) (X.A.mark (some (.ref a))) (eval (.Name x np) X.env) Q E s := fun {Q E} q => by
    obtain ⟨hg, hdbg, hm | ⟨hm, hv, hnn⟩⟩ := hc
    · exact ld_glob (X := X.suite a ((a, oe) :: (X.pn ++ pins))) S hg hm q hdbg
    · exact ld_blt (X := X.suite a ((a, oe) :: (X.pn ++ pins))) S hg hm hv q hnn hdbg
  refine name ((PySem.W.exm_one (M := model X.prog X.w) I0.kIn look hm).here (codeAny_handlers_suite_as ?_))
  refine HandSPX.lands_againZ fl fun h4 fl4 up4 => ?_
  obtain ⟨oe4, hd4, _, hz4, S4⟩ := suite_of (s := { s with heap := h4 }) hf fl4 (back h4 fl4 up4) na
  refine store_ok (X := X.suite a ((a, oe4) :: (X.pn ++ pins))) (v := .ref a) S4 hN hi (.inl hln) rfl (fun s5 S5 => ?_) (.inr hln)
  have R := (hsu a oe4 cls d (X.pn ++ pins) hz4 hd4).run [] s5 _ H _ S5 (hw a na)
  refine wpAny_mono R (fun f s6 hsp => ?_) fun _ _ z => z.elim
  cases f with
  | ret u =>
    obtain ⟨v6, σ6, H6, S6, r6, q6⟩ := hsp
    exact gone_ok (S6.unsuite ok) hN hi hln fun s7 J7 => ⟨_, _, _, J7, r6, q6⟩
  | next =>
    obtain ⟨σ6, H6, S6, q6⟩ := hsp
    exact gone_ok (S6.unsuite ok) hN hi hln fun s7 J7 => ⟨_, _, J7, q6⟩
  | brk =>
    obtain ⟨σ6, H6, S6, q6⟩ := hsp
    exact gone_ok (S6.unsuite ok) hN hi hln fun s7 J7 => ⟨_, _, J7, q6⟩
  | cont =>
    obtain ⟨σ6, H6, S6, q6⟩ := hsp
    exact gone_ok (S6.unsuite ok) hN hi hln fun s7 J7 => ⟨_, _, J7, q6⟩
end
end L2
namespace Sh
open PySem PySem.Spec PyProof.Rows L2
/-- an own exception class in except clauses -/
structure XOk (K : PySem.W.Frag) (C : Addr) (fs : List Str) : Prop where
  xf : XfC K C
  no : ∀ f ∈ fs, PySem.W.findIn K (.ref C) f = some none
  me : PySem.W.exmOne K (.ref C) (.ref C) = some true
/-- a call whose exceptions are wished for at the slots at hand -/
theorem pe_dS {X : Cx} {CX : CXT} {E : L2.St → XK} {k : Nat} {x : Str} {sp : Sp} {e : Expr} {es : List Expr} {t : TA} {p pos : Pos} (D : DefOk X.prog X.w X.K X.mg X.base CX k x sp) (hr : Room k X.A) (hx : ∀ σ, PassesAt CX X σ (E σ)) (ha : PA X (e :: es) t)
    (hg : Gl X x := by rfl) (hd : (x == ("__debug__" : Str)) = false := by decide)
    (he : starEach (e :: es) X.env = (false, eval e X.env) :: starEach es X.env := by rfl) (hpl : (backTo pos (starEach es X.env)).any (·.1) = false := by rfl) :
    PE X (.Call (.Name x p) (e :: es) [] pos) (tCallS sp E t) := by
  obtain ⟨f, hm, hk, F⟩ := D
  refine ⟨fun pins s σ H Q I h => ?_⟩
  refine wpAny_Call_Name_kw (ld_glob I hg hm ?_ hd)
  refine PySem.W.callWith_K (h₀ := X.base) I.ok.mod.kin hk (thn (ha.run pos pins s σ H _ I h) fun us s1 ⟨vs, H1, I1, r, q⟩ => ⟨I1.kIn, ?_⟩) he hpl
  refine wpAny_call (codeAny_mono (F X.A X.stack s1 H1 us vs Q (E σ) hr I1.env0 r q) fun r s' hq => ?_)
  cases r with
  | error e => exact hx σ pins H1 s1 e s' I1 hq
  | ok fl =>
    cases fl with
    | ret u => exact I1.after hq
    | next => exact hq.elim
    | brk => exact hq.elim
    | cont => exact hq.elim
end Sh
end
section
set_option Elab.async false
set_option linter.all false
set_option maxRecDepth 100000
set_option maxHeartbeats 2000000
set_option autoImplicit false
/-! A hook that also tells of own exception classes with `super().__init__(..)`. -/
namespace Hx
open PySem PySem.Spec PyProof.Rows L2 He PySem.W
/-- an own exception class: its name, its fields, its __init__ as written -/
structure XDef where
  x : Str
  fs : List Str
  qual : Str
  params : Arguments
  body : List Stmt
  scope : Scope
abbrev XV : Type := Option (Str × Str × Arguments × FuncBody × Scope × Addr × Addr)
def iOf (K : Frag) (x : Str) : Addr := ma K (ga K x) "__init__"
def xvOf (K : Frag) (x : Str) : XV := match K.lookup (iOf K x) with
  | some ⟨_, _, .func fd, _⟩ => some (fd.name, fd.qualname, fd.params, fd.body, fd.scope, fd.globals, fd.builtins)
  | _ => none
def XDef.val (d : XDef) : XV := some ("__init__", d.qual, d.params, .stmts d.body, d.scope, mainGlobals, builtinsNs)
def cellB (K : Frag) (C : Addr) (cl : List (Str × Addr)) : Bool := match cl with
  | [(n, cc)] => decide (n = "__class__") && (match K.lookup cc with
    | some ⟨_, _, .cell (some (.ref D)), _⟩ => decide (D = C)
    | _ => false)
  | _ => false
def codeB (K : Frag) (file : Str) (cd : Value) : Bool := match cd with
  | .ref cda => (match K.lookup cda with
    | some ⟨_, _, .fields cvs, _⟩ => (match (cvs[2]? : Option Value) with
      | some (.str f _) => file == f
      | _ => false)
    | _ => false)
  | _ => false
def noneB (v : Value) : Bool := match v with
  | .none => true
  | _ => false
def funB (K : Frag) (file : Str) (d : XDef) : Bool := match K.lookup (iOf K d.x) with
  | some ⟨_, _, .func fd, _⟩ => noneB fd.defaults && (codeIn K fd.code d.qual && (codeB K file fd.code && cellB K (ga K d.x) fd.closure))
  | _ => false
def clsB (K : Frag) (C : Addr) : Bool := match K.lookup C with
  | some ⟨.type "type", _, .cls cd, sl⟩ => (match cd.mro, sl.toList with
    | .ref C' :: bm, [_, _, _, _, some (.builtin n), _] => decide (C' = C) && (decide (n = "ValueError.__new__") && (!cd.hasDel && (cd.hasDict && HandSPX.refsVE bm)))
    | _, _ => false)
  | _ => false
def XDef.ok (file : Str) (K : Frag) (d : XDef) : Bool :=
  clsB K (ga K d.x) && (funB K file d && (eqO (findIn K (.ref (ga K d.x)) "__setattr__") (some (some (.builtin "object.__setattr__"))) && ((d.fs.all fun f => eqO (findIn K (.ref (ga K d.x)) f) (some none)) &&
  (eqO (findIn K (.ref (ga K d.x)) "__init__") (some (some (.ref (iOf K d.x)))) && (decide (typeIn K (.ref (iOf K d.x)) = some (.type "function")) && (keepIn K (.ref (ga K d.x)) && (decide (subIn K (.ref (ga K d.x)) (.type "BaseException") = some true) &&
  (decide (subIn K (.ref (ga K d.x)) (.type "ValueError") = some true) && (decide (typeIn K (.ref (ga K d.x)) = some (.type "type")) && (decide (mroIn K (ga K d.x) (.ref (ga K d.x)) = some true) && (eqO (ks_superIn K (ga K d.x) (ga K d.x) "__init__") (some (some (.builtin "ValueError.__init__"))) &&
  (eqO (nsIn K cStatics "thirdparty.any") (some none) && (L2.xfB K (ga K d.x) && (decide (exmOne K (.ref (ga K d.x)) (.ref (ga K d.x)) = some true) && eqO (nsIn K mainGlobals d.x) (some (some (.ref (ga K d.x))))))))))))))))))
structure XFacts (prog : Program) (K : Frag) (d : XDef) (l : List SupX.StP) : Prop where
  txt : SupX.SupTxt prog K (ga K d.x) (iOf K d.x) d.qual d.params d.body d.scope l
  xf : L2.XfC K (ga K d.x)
  no : ∀ f ∈ d.fs, findIn K (.ref (ga K d.x)) f = some none
  me : exmOne K (.ref (ga K d.x)) (.ref (ga K d.x)) = some true
  gl : nsIn K mainGlobals d.x = some (some (.ref (ga K d.x)))
theorem facts_of {prog : Program} {K : Frag} {d : XDef} {l : List SupX.StP} (e : xvOf K d.x = d.val) (c : d.ok prog.main.file K = true) (hl : ∀ z ∈ l, z.f ∈ d.fs) : XFacts prog K d l := by
  unfold XDef.ok at c
  obtain ⟨c1, c⟩ := ba c
  obtain ⟨c2, c⟩ := ba c
  obtain ⟨c3, c⟩ := ba c
  obtain ⟨c4, c⟩ := ba c
  obtain ⟨c5, c⟩ := ba c
  obtain ⟨c6, c⟩ := ba c
  obtain ⟨c7, c⟩ := ba c
  obtain ⟨c8, c⟩ := ba c
  obtain ⟨c9, c⟩ := ba c
  obtain ⟨c10, c⟩ := ba c
  obtain ⟨c11, c⟩ := ba c
  obtain ⟨c12, c⟩ := ba c
  obtain ⟨c13, c⟩ := ba c
  obtain ⟨c14, c⟩ := ba c
  obtain ⟨c15, c16⟩ := ba c
  have no : ∀ f ∈ d.fs, findIn K (.ref (ga K d.x)) f = some none := fun f hf => eqO_ok (List.all_eq_true.mp c4 f hf)
  refine ⟨⟨?_, eqO_ok c3, fun z hz => no _ (hl z hz), eqO_ok c5, of_decide_eq_true c6, c7, of_decide_eq_true c8, of_decide_eq_true c9, of_decide_eq_true c10, of_decide_eq_true c11, eqO_ok c12, eqO_ok c13, ?_⟩, L2.xfB_ok c14, no, of_decide_eq_true c15, eqO_ok c16⟩
  · unfold clsB at c1
    split at c1
    · rename_i dd cd sl ho
      split at c1
      · rename_i C' bm k0 k1 k2 k3 n k5 hm hs
        obtain ⟨y1, y⟩ := ba c1
        obtain ⟨y2, y⟩ := ba y
        obtain ⟨y3, y⟩ := ba y
        obtain ⟨y4, y5⟩ := ba y
        have y1 := of_decide_eq_true y1
        have y2 := of_decide_eq_true y2
        have y3' : cd.hasDel = false := by
          cases h : cd.hasDel with
          | false => rfl
          | true => rw [h] at y3; cases y3
        clear y3
        obtain ⟨nm, bs, mro, ns, qn, hd, sn, sub, ab, col, del⟩ := cd
        dsimp only at hm y3' y4
        subst y1 y2 hm y3' y4
        have hsl : sl = #[k0, k1, k2, k3, some (.builtin "ValueError.__new__"), k5] := by
          obtain ⟨l⟩ := sl
          simp only at hs
          rw [hs]
        subst hsl
        exact ⟨nm, qn, ns, bs, bm, sn, sub, ab, col, dd, k0, k1, k2, k3, k5, ho, y5⟩
      · cases c1
    · cases c1
  · unfold funB at c2
    unfold xvOf at e
    cases q : K.lookup (iOf K d.x) with
    | none =>
      rw [q] at c2
      cases c2
    | some o =>
      obtain ⟨oc, od, dt, osl⟩ := o
      rw [q] at c2 e
      cases dt with
      | func fd =>
        obtain ⟨n1, n2, n3, n4, n5, n6, n7, n8, n9, n10, n11, n12, n13, n14, n15⟩ := fd
        have e2 : (some (n1, n2, n3, n4, n5, n6, n15) : XV) = (some (("__init__" : Str), d.qual, d.params, FuncBody.stmts d.body, d.scope, mainGlobals, builtinsNs) : XV) := e
        simp only [Option.some.injEq, Prod.mk.injEq] at e2
        obtain ⟨h1, h2, h3, h4, h5, h6, h8⟩ := e2
        subst h1 h2 h3 h4 h5 h6 h8
        have c3 : (noneB n8 && (codeIn K n13 d.qual && (codeB K prog.main.file n13 && cellB K (ga K d.x) n7))) = true := c2
        obtain ⟨k1, k2⟩ := ba c3
        obtain ⟨k3, k4⟩ := ba k2
        obtain ⟨k5, k6⟩ := ba k4
        have hn8 : n8 = .none := by
          cases n8 with
          | none => rfl
          | _ => cases k1
        subst hn8
        unfold codeB at k5
        unfold cellB at k6
        split at k5
        · rename_i cda
          split at k5
          · rename_i ccl cdd cvs ccs hcda
            split at k5
            · rename_i f tf hf
              split at k6
              · rename_i n cc
                obtain ⟨z1, z2⟩ := ba k6
                have z1 := of_decide_eq_true z1
                subst z1
                split at z2
                · rename_i cl cld D csl hcc
                  have z2 := of_decide_eq_true z2
                  subst z2
                  exact ⟨oc, od, osl, n9, n10, n11, n12, cda, n14, cc, ccl, cdd, cvs, ccs, f, tf, cl, cld, csl, rfl, k3, hcda, hf, k5, hcc⟩
                · cases z2
              · cases k6
            · cases k5
          · cases k5
        · cases k5
      | _ => cases c2
abbrev AlX : Type := AlD × (Bool × List XV)
def frX (n : Nat) (g : Addr → Option Obj) : Frag := frG g (asD g n ++ [cStatics])
def obsX (file : Str) (n : Nat) (fa : List Fa) (fn : List DefD) (xs : List XDef) (g : Addr → Option Obj) : AlX :=
  (obsD fa fn (frX n g), (xs.all fun d => d.ok file (frX n g), xs.map fun d => xvOf (frX n g) d.x))
def hookX (file : Str) (n : Nat) (fa : List Fa) (fn : List DefD) (xs : List XDef) : PySem.W.Hook where
  α := AlX
  obs := fun s => obsX file n fa fn xs s.heap.get?
  val := fun _ => (valD fn, (true, xs.map XDef.val))
  says := fun _ h => ∃ K : Frag, K.In h ∧ SaysD fa fn K ∧ (xs.all fun d => d.ok file K) = true ∧ (xs.map fun d => xvOf K d.x) = xs.map XDef.val
  of := fun _ _ e => ⟨_, frG_in, congrArg (fun z : AlX => z.1) e, congrArg (fun z : AlX => z.2.1) e, congrArg (fun z : AlX => z.2.2) e⟩
  keeps := fun _ _ _ ⟨K, hK, c⟩ k => ⟨K, PySem.W.Frag.In.keeps hK k, c⟩
theorem obsX_eq {file : Str} {n : Nat} {fa : List Fa} {fn : List DefD} {xs : List XDef} {g : Addr → Option Obj} {s : Shared} (h : ∀ a, g a = s.heap.get? a) : obsX file n fa fn xs g = (hookX file n fa fn xs).obs s := by
  have e : g = s.heap.get? := funext h
  rw [e] <;> rfl
theorem x_of {file : Str} {K : Frag} {xs : List XDef} (h1 : (xs.all fun d => d.ok file K) = true) (h2 : (xs.map fun d => xvOf K d.x) = xs.map XDef.val) (i : Nat) {d : XDef} (h : xs[i]? = some d := by rfl) : xvOf K d.x = d.val ∧ d.ok file K = true := by
  refine ⟨?_, List.all_eq_true.mp h1 d (List.mem_of_getElem? h)⟩
  have e2 : (xs.map fun d => xvOf K d.x)[i]? = (xs.map XDef.val)[i]? := by rw [h2]
  rw [List.getElem?_map, List.getElem?_map, h] at e2
  exact Option.some.inj e2
end Hx
end
section
set_option linter.all false
set_option autoImplicit false
/-! Plants as preorder lists: whole rows of branches, skipping, places, paths. -/
namespace Mth
variable {α : Type} (w : α → Nat)
/-- n plants one behind the other, and nothing else -/
def forest : List α → Nat → Bool
  | [], n => n == 0
  | _ :: _, 0 => false
  | k :: r, n + 1 => forest r (w k + n)
/-- behind n plants -/
def skip : List α → Nat → List α
  | [], _ => []
  | k :: r, 0 => k :: r
  | k :: r, n + 1 => skip r (w k + n)
theorem skip_zero (l : List α) : skip w l 0 = l := by cases l <;> rfl
theorem skip_add : ∀ (l : List α) (a b : Nat), skip w l (a + b) = skip w (skip w l a) b
  | [], _, _ => rfl
  | k :: r, 0, b => by rw [Nat.zero_add]; rfl
  | k :: r, a + 1, b => by
    rw [show a + 1 + b = (a + b) + 1 by omega]
    show skip w r (w k + (a + b)) = skip w (skip w r (w k + a)) b
    rw [← skip_add r (w k + a) b, Nat.add_assoc]
theorem forest_skip : ∀ (l : List α) (a b : Nat), forest w l (a + b) = true → forest w (skip w l a) b = true
  | [], a, b, h => by
    have e : a + b = 0 := eq_of_beq h
    have e2 : b = 0 := by omega
    rw [e2]; rfl
  | k :: r, 0, b, h => by rw [Nat.zero_add] at h; exact h
  | k :: r, a + 1, b, h => by
    rw [show a + 1 + b = (a + b) + 1 by omega] at h
    have h2 : forest w r (w k + (a + b)) = true := h
    show forest w (skip w r (w k + a)) b = true
    exact forest_skip r (w k + a) b (by rw [Nat.add_assoc]; exact h2)
theorem skip_suffix : ∀ (l : List α) (n : Nat), ∃ j, j ≤ l.length ∧ skip w l n = l.drop j
  | [], _ => ⟨0, Nat.le_refl _, rfl⟩
  | k :: r, 0 => ⟨0, Nat.zero_le _, rfl⟩
  | k :: r, n + 1 => by
    obtain ⟨j, hj, e⟩ := skip_suffix r (w k + n)
    exact ⟨j + 1, by rw [List.length_cons]; omega, e⟩
theorem skip_len (l : List α) (n : Nat) : (skip w l n).length ≤ l.length := by
  obtain ⟨j, hj, e⟩ := skip_suffix w l n
  rw [e, List.length_drop]; omega
theorem skip_lt (l : List α) (n : Nat) (h : l ≠ []) : (skip w l (n + 1)).length < l.length := by
  cases l with
  | nil => exact absurd rfl h
  | cons k r => exact Nat.lt_succ_of_le (skip_len w r _)
theorem forest_nil {n : Nat} (h : forest w [] n = true) : n = 0 := eq_of_beq h
theorem forest_zero {l : List α} (h : forest w l 0 = true) : l = [] := by
  cases l with
  | nil => rfl
  | cons _ _ => cases h
theorem forest_pos {l : List α} {n : Nat} (h : forest w l (n + 1) = true) : l ≠ [] := fun e => by
  rw [e] at h
  exact absurd (eq_of_beq h : n + 1 = 0) (by omega)
theorem forest_app : ∀ (l r : List α) (a b : Nat), forest w l a = true → forest w r b = true → forest w (l ++ r) (a + b) = true
  | [], r, a, b, h, g => by
    rw [forest_nil w h, Nat.zero_add]; exact g
  | k :: l, r, 0, b, h, g => by cases h
  | k :: l, r, a + 1, b, h, g => by
    rw [show a + 1 + b = (a + b) + 1 by omega]
    show forest w (l ++ r) (w k + (a + b)) = true
    rw [← Nat.add_assoc]
    exact forest_app l r (w k + a) b h g
theorem skip_app : ∀ (l r : List α) (a : Nat), forest w l a = true → skip w (l ++ r) a = r
  | [], r, a, h => by rw [forest_nil w h]; exact skip_zero w r
  | k :: l, r, 0, h => by cases h
  | k :: l, r, a + 1, h => skip_app l r (w k + a) h
/-- the part up to the skip is a forest -/
theorem forest_take : ∀ (l : List α) (a b : Nat), forest w l (a + b) = true → forest w (l.take (l.length - (skip w l a).length)) a = true
  | [], a, b, h => by
    have := forest_nil w h
    rw [show a = 0 by omega]; rfl
  | k :: r, 0, b, h => by
    rw [skip_zero, Nat.sub_self]; rfl
  | k :: r, a + 1, b, h => by
    rw [show a + 1 + b = (a + b) + 1 by omega] at h
    have h2 : forest w r ((w k + a) + b) = true := by rw [Nat.add_assoc]; exact h
    have q := forest_take r (w k + a) b h2
    have hl := skip_len w r (w k + a)
    show forest w ((k :: r).take ((k :: r).length - (skip w r (w k + a)).length)) (a + 1) = true
    rw [List.length_cons, show r.length + 1 - (skip w r (w k + a)).length = (r.length - (skip w r (w k + a)).length) + 1 by omega, List.take_succ_cons]
    exact q
/-! ### places -/
/-- the place behind n plants from place i on -/
def nxs (l : List α) (i n : Nat) : Nat := l.length - (skip w (l.drop i) n).length
theorem drop_nxs (l : List α) (i n : Nat) : l.drop (nxs w l i n) = skip w (l.drop i) n := by
  obtain ⟨j, hj, e⟩ := skip_suffix w (l.drop i) n
  unfold nxs
  rw [e, List.drop_drop, List.length_drop]
  rw [List.length_drop] at hj
  by_cases h : i ≤ l.length
  · rw [show l.length - (l.length - (i + j)) = i + j by omega]
  · rw [List.drop_eq_nil_of_le (by omega), List.drop_eq_nil_of_le (by omega)]
theorem nxs_le (l : List α) (i n : Nat) : nxs w l i n ≤ l.length := Nat.sub_le _ _
theorem nxs_zero {l : List α} {i : Nat} (h : i ≤ l.length) : nxs w l i 0 = i := by
  unfold nxs
  rw [skip_zero, List.length_drop]; omega
theorem nxs_add (l : List α) (i a b : Nat) : nxs w l i (a + b) = nxs w l (nxs w l i a) b := by
  unfold nxs
  rw [skip_add]
  have e := drop_nxs w l i a
  unfold nxs at e
  rw [e]
theorem nxs_ge (l : List α) {i : Nat} (n : Nat) (h : i ≤ l.length) : i ≤ nxs w l i n := by
  have q := skip_len w (l.drop i) n
  rw [List.length_drop] at q
  unfold nxs; omega
theorem nxs_gt {l : List α} {i : Nat} (n : Nat) (h : i < l.length) : i < nxs w l i (n + 1) := by
  have q := skip_lt w (l.drop i) n (by intro e; have := congrArg List.length e; rw [List.length_drop] at this; simp at this; omega)
  rw [List.length_drop] at q
  unfold nxs; omega
/-- m plants stand from place i to the end -/
def Fst (l : List α) (i m : Nat) : Prop := i ≤ l.length ∧ forest w (l.drop i) m = true
theorem Fst.lt {l : List α} {i m : Nat} (h : Fst w l i (m + 1)) : i < l.length := by
  refine Nat.lt_of_not_le fun q => ?_
  have e := h.2
  rw [List.drop_eq_nil_of_le q] at e
  exact forest_pos w e rfl
theorem Fst.skip {l : List α} {i a b : Nat} (h : Fst w l i (a + b)) : Fst w l (nxs w l i a) b :=
  ⟨nxs_le w l i a, by rw [drop_nxs]; exact forest_skip w _ a b h.2⟩
theorem Fst.in {l : List α} {i m : Nat} {k : α} (h : Fst w l i (m + 1)) (hk : l[i]? = some k) : Fst w l (i + 1) (w k + m) := by
  have hi := (List.getElem?_eq_some_iff.mp hk).1
  have e := h.2
  have d : l.drop i = k :: l.drop (i + 1) := by
    rw [List.drop_eq_getElem_cons hi]
    have := (List.getElem?_eq_some_iff.mp hk).2
    rw [this]
  rw [d] at e
  exact ⟨hi, e⟩
theorem nxs_in {l : List α} {i m : Nat} {k : α} (hk : l[i]? = some k) (n : Nat) : nxs w l i (n + 1) = nxs w l (i + 1) (w k + n) := by
  have hi := (List.getElem?_eq_some_iff.mp hk).1
  have d : l.drop i = k :: l.drop (i + 1) := by
    rw [List.drop_eq_getElem_cons hi]
    have := (List.getElem?_eq_some_iff.mp hk).2
    rw [this]
  unfold nxs
  rw [d]
  rfl
theorem nxs_lt_of {l : List α} {i a b : Nat} (h : Fst w l i (a + b)) (hb : 0 < b) : nxs w l i a < l.length := by
  obtain ⟨c, rfl⟩ : ∃ c, b = c + 1 := ⟨b - 1, by omega⟩
  exact Fst.lt w (h.skip w)
theorem nxs_mono {l : List α} {i m a b : Nat} (h : Fst w l i m) (hab : a < b) (hb : b ≤ m) : nxs w l i a < nxs w l i b := by
  obtain ⟨c, rfl⟩ : ∃ c, b = a + (c + 1) := ⟨b - a - 1, by omega⟩
  obtain ⟨d, rfl⟩ : ∃ d, m = a + (c + 1) + d := ⟨m - (a + (c + 1)), by omega⟩
  rw [nxs_add]
  exact nxs_gt w c (nxs_lt_of w (b := c + 1 + d) (by rw [← Nat.add_assoc]; exact h) (by omega))
theorem Fst.all {l : List α} (h : forest w l 1 = true) : ∀ i, i ≤ l.length → ∃ m, Fst w l i m
  | 0, _ => ⟨1, Nat.zero_le _, by rw [List.drop_zero]; exact h⟩
  | i + 1, hi => by
    obtain ⟨m, F⟩ := Fst.all h i (by omega)
    cases m with
    | zero =>
      have z := forest_zero w F.2
      have := congrArg List.length z
      rw [List.length_drop] at this
      simp at this
      omega
    | succ m => exact ⟨_, F.in w (List.getElem?_eq_getElem (by omega))⟩
theorem Fst.pos {l : List α} {i m : Nat} (h : Fst w l i m) (hi : i < l.length) : ∃ n, m = n + 1 := by
  cases m with
  | succ n => exact ⟨n, rfl⟩
  | zero =>
    have z := forest_zero w h.2
    have := congrArg List.length z
    rw [List.length_drop] at this
    simp at this
    omega
/-! ### paths -/
def kids (p : List Nat) (n : Nat) : List (List Nat) := (List.range n).map fun i => p ++ [i]
def pths : List α → List (List Nat) → List (List Nat)
  | [], _ => []
  | _ :: _, [] => []
  | k :: r, p :: st => p :: pths r (kids p (w k) ++ st)
/-- the paths that wait ahead of place i -/
def stk (l : List α) : Nat → List (List Nat)
  | 0 => [[]]
  | i + 1 => match stk l i, l[i]? with
    | p :: st, some k => kids p (w k) ++ st
    | st, _ => st
def pth (l : List α) (i : Nat) : List Nat := (stk w l i).headD []
theorem kids_len (p : List Nat) (n : Nat) : (kids p n).length = n := by simp [kids]
theorem stk_len {l : List α} (h : forest w l 1 = true) : ∀ i, i ≤ l.length → Fst w l i (stk w l i).length
  | 0, _ => ⟨Nat.zero_le _, by rw [List.drop_zero]; exact h⟩
  | i + 1, hi => by
    have F := stk_len h i (by omega)
    have hi' : i < l.length := by omega
    obtain ⟨n, hn⟩ := F.pos w hi'
    cases e : stk w l i with
    | nil => rw [e] at hn; cases hn
    | cons p st =>
      have hk : l[i]? = some l[i] := List.getElem?_eq_getElem hi'
      have q : stk w l (i + 1) = kids p (w l[i]) ++ st := by
        show (match stk w l i, l[i]? with
          | p :: st, some k => kids p (w k) ++ st
          | st, _ => st) = _
        rw [e, hk]
      rw [q, List.length_append, kids_len]
      rw [e, List.length_cons] at F
      exact F.in w hk
theorem stk_step {l : List α} (h : forest w l 1 = true) {i : Nat} (hi : i < l.length) : ∃ st, stk w l i = pth w l i :: st ∧ stk w l (i + 1) = kids (pth w l i) (w l[i]) ++ st := by
  have F := stk_len w h i (Nat.le_of_lt hi)
  obtain ⟨n, hn⟩ := F.pos w hi
  cases e : stk w l i with
  | nil => rw [e] at hn; cases hn
  | cons p st =>
    have ep : pth w l i = p := by unfold pth; rw [e]; rfl
    refine ⟨st, by rw [ep], ?_⟩
    have hk : l[i]? = some l[i] := List.getElem?_eq_getElem hi
    show (match stk w l i, l[i]? with
      | p :: st, some k => kids p (w k) ++ st
      | st, _ => st) = _
    rw [e, hk, ep]
theorem stk_succ {l u : List α} {i k : Nat} (a : stk w l i = stk w u k) (b : l[i]? = u[k]?) : stk w l (i + 1) = stk w u (k + 1) := by
  show (match stk w l i, l[i]? with
      | p :: st, some k => kids p (w k) ++ st
      | st, _ => st) = (match stk w u k, u[k]? with
      | p :: st, some k => kids p (w k) ++ st
      | st, _ => st)
  rw [a, b]
/-- where a path leads, from a place -/
def walk (l : List α) : Nat → List Nat → Option Nat
  | p, [] => some p
  | p, c :: cs => match l[p]? with
    | some k => if c < w k then walk l (nxs w l (p + 1) c) cs else none
    | none => none
theorem walk_app (l : List α) : ∀ (a : List Nat) (p : Nat) (b : List Nat), walk w l p (a ++ b) = (walk w l p a).bind fun q => walk w l q b
  | [], p, b => rfl
  | c :: a, p, b => by
    show (match l[p]? with
      | some k => if c < w k then walk w l (nxs w l (p + 1) c) (a ++ b) else none
      | none => none) = _
    show _ = (match l[p]? with
      | some k => if c < w k then walk w l (nxs w l (p + 1) c) a else none
      | none => none : Option Nat).bind _
    cases l[p]? with
    | none => rfl
    | some k =>
      dsimp only
      by_cases hc : c < w k
      · rw [if_pos hc, if_pos hc]
        exact walk_app l a _ b
      · rw [if_neg hc, if_neg hc]; rfl
theorem walk_one {l : List α} {p c : Nat} {k : α} (hk : l[p]? = some k) : walk w l p [c] = if c < w k then some (nxs w l (p + 1) c) else none := by
  show (match l[p]? with
    | some k => if c < w k then walk w l (nxs w l (p + 1) c) [] else none
    | none => none) = _
  rw [hk]; rfl
theorem kids_get {p : List Nat} {n t : Nat} (h : t < n) : (kids p n)[t]? = some (p ++ [t]) := by
  unfold kids
  rw [List.getElem?_map, List.getElem?_range h]; rfl
theorem stk_walk {l : List α} (h : forest w l 1 = true) : ∀ i, i ≤ l.length → ∀ (t : Nat) (p : List Nat), (stk w l i)[t]? = some p → walk w l 0 p = some (nxs w l i t)
  | 0, _, t, p, hp => by
    have e : (([[]] : List (List Nat)))[t]? = some p := hp
    cases t with
    | zero =>
      cases e
      rw [nxs_zero w (Nat.zero_le _)]; rfl
    | succ t => simp at e
  | i + 1, hi, t, p, hp => by
    have hi' : i < l.length := by omega
    obtain ⟨st, e1, e2⟩ := stk_step w h hi'
    have ih := stk_walk h i (by omega)
    have hk : l[i]? = some l[i] := List.getElem?_eq_getElem hi'
    rw [e2] at hp
    by_cases ht : t < w l[i]
    · rw [List.getElem?_append_left (by rw [kids_len]; exact ht), kids_get ht] at hp
      cases hp
      have q := ih 0 (pth w l i) (by rw [e1]; rfl)
      rw [nxs_zero w (by omega)] at q
      rw [walk_app, q]
      show walk w l i [t] = _
      rw [walk_one w hk, if_pos ht]
    · rw [List.getElem?_append_right (by rw [kids_len]; omega), kids_len] at hp
      have q := ih (t - w l[i] + 1) p (by rw [e1]; exact hp)
      rw [q, nxs_in w (m := 0) hk, show w l[i] + (t - w l[i]) = t by omega]
theorem pth_walk {l : List α} (h : forest w l 1 = true) {i : Nat} (hi : i < l.length) : walk w l 0 (pth w l i) = some i := by
  obtain ⟨st, e1, _⟩ := stk_step w h hi
  have q := stk_walk w h i (Nat.le_of_lt hi) 0 (pth w l i) (by rw [e1]; rfl)
  rw [nxs_zero w (Nat.le_of_lt hi)] at q
  exact q
/-! ### another branch in the place of one -/
theorem skip_swap : ∀ (x y y' : List α) (c : Nat) (x' : List α), y ≠ [] → skip w (x ++ y) c = x' ++ y → skip w (x ++ y') c = x' ++ y'
  | x, y, y', 0, x', hy, h => by
    rw [skip_zero] at h ⊢
    rw [List.append_cancel_right h]
  | [], y, y', c + 1, x', hy, h => by
    have q := skip_lt w y c hy
    rw [List.nil_append] at h
    rw [h, List.length_append] at q
    omega
  | k :: x, y, y', c + 1, x', hy, h => skip_swap x y y' (w k + c) x' hy h
theorem suffix_len {x' y z : List α} (h : x' ++ y = z) : y.length ≤ z.length := by rw [← h, List.length_append]; omega
/-- a path that leads to the place behind x leads there as well when another row stands from there on -/
theorem walk_swap {pre y y' : List α} (hy : y ≠ []) : ∀ (cs : List Nat) (u x : List α), pre = u ++ x → walk w (pre ++ y) u.length cs = some pre.length → walk w (pre ++ y') u.length cs = some pre.length
  | [], u, x, e, h => by
    have h2 : u.length = pre.length := Option.some.inj h
    show some u.length = _
    rw [h2]
  | c :: cs, u, [], e, h => by
    -- the walk goes on beyond the place: it cannot come back
    exfalso
    rw [List.append_nil] at e
    subst e
    have go : ∀ (cs : List Nat) (q : Nat), pre.length < q → walk w (pre ++ y) q cs ≠ some pre.length := by
      intro cs
      induction cs with
      | nil => intro q hq e; exact absurd (Option.some.inj e) (by omega)
      | cons c cs ih =>
        intro q hq e
        have e' : (match (pre ++ y)[q]? with
          | some k => if c < w k then walk w (pre ++ y) (nxs w (pre ++ y) (q + 1) c) cs else none
          | none => none) = some pre.length := e
        cases hk : (pre ++ y)[q]? with
        | none => rw [hk] at e'; cases e'
        | some k =>
          rw [hk] at e'
          dsimp only at e'
          by_cases hc : c < w k
          · rw [if_pos hc] at e'
            have hq2 := (List.getElem?_eq_some_iff.mp hk).1
            exact ih _ (Nat.lt_of_lt_of_le (by omega) (nxs_ge w _ c (show q + 1 ≤ _ from hq2))) e'
          · rw [if_neg hc] at e'; cases e'
    have e' : (match (pre ++ y)[pre.length]? with
      | some k => if c < w k then walk w (pre ++ y) (nxs w (pre ++ y) (pre.length + 1) c) cs else none
      | none => none) = some pre.length := h
    cases hk : (pre ++ y)[pre.length]? with
    | none => rw [hk] at e'; cases e'
    | some k =>
      rw [hk] at e'
      dsimp only at e'
      by_cases hc : c < w k
      · rw [if_pos hc] at e'
        have hq2 := (List.getElem?_eq_some_iff.mp hk).1
        exact go cs _ (Nat.lt_of_lt_of_le (by omega) (nxs_ge w _ c (show pre.length + 1 ≤ _ from hq2))) e'
      · rw [if_neg hc] at e'; cases e'
  | c :: cs, u, k :: x, e, h => by
    have hg : ∀ z : List α, (pre ++ z)[u.length]? = some k := fun z => by
      rw [e, List.append_assoc, List.getElem?_append_right (Nat.le_refl _), Nat.sub_self]; rfl
    have hd : ∀ z : List α, (pre ++ z).drop (u.length + 1) = x ++ z := fun z => by
      rw [e, List.append_assoc, List.drop_append, List.drop_eq_nil_of_le (by omega), show u.length + 1 - u.length = 1 by omega]; rfl
    have h' : (match (pre ++ y)[u.length]? with
      | some k => if c < w k then walk w (pre ++ y) (nxs w (pre ++ y) (u.length + 1) c) cs else none
      | none => none) = some pre.length := h
    show (match (pre ++ y')[u.length]? with
      | some k => if c < w k then walk w (pre ++ y') (nxs w (pre ++ y') (u.length + 1) c) cs else none
      | none => none) = some pre.length
    rw [hg] at h' ⊢
    dsimp only at h' ⊢
    by_cases hc : c < w k
    · rw [if_pos hc] at h' ⊢
      -- the place behind c branches lies at or ahead of the end of pre
      have back : ∀ (cs : List Nat) (q r : Nat), walk w (pre ++ y) q cs = some r → q ≤ r := by
        intro cs
        induction cs with
        | nil => intro q r e; exact Nat.le_of_eq (Option.some.inj e)
        | cons c cs ih =>
          intro q r e
          have e' : (match (pre ++ y)[q]? with
            | some k => if c < w k then walk w (pre ++ y) (nxs w (pre ++ y) (q + 1) c) cs else none
            | none => none) = some r := e
          cases hk : (pre ++ y)[q]? with
          | none => rw [hk] at e'; cases e'
          | some k =>
            rw [hk] at e'
            dsimp only at e'
            by_cases hc : c < w k
            · rw [if_pos hc] at e'
              have hq2 := (List.getElem?_eq_some_iff.mp hk).1
              have z1 := ih _ _ e'
              have z2 := nxs_ge w (pre ++ y) c (show q + 1 ≤ _ from hq2)
              omega
            · rw [if_neg hc] at e'; cases e'
      have hb := back cs _ _ h'
      have hs := drop_nxs w (pre ++ y) (u.length + 1) c
      rw [hd] at hs
      have hle : nxs w (pre ++ y) (u.length + 1) c ≤ pre.length := hb
      have ha : (pre ++ y).drop (nxs w (pre ++ y) (u.length + 1) c) = pre.drop (nxs w (pre ++ y) (u.length + 1) c) ++ y := by
        rw [List.drop_append, show nxs w (pre ++ y) (u.length + 1) c - pre.length = 0 by omega, List.drop_zero]
      rw [ha] at hs
      have sw := skip_swap w x y y' c _ hy hs.symm
      have en : nxs w (pre ++ y') (u.length + 1) c = nxs w (pre ++ y) (u.length + 1) c := by
        show (pre ++ y').length - (skip w ((pre ++ y').drop (u.length + 1)) c).length = _
        rw [hd, sw, List.length_append, List.length_append, List.length_drop]
        omega
      rw [en]
      have el : (pre.take (nxs w (pre ++ y) (u.length + 1) c)).length = nxs w (pre ++ y) (u.length + 1) c := by rw [List.length_take]; omega
      have r := walk_swap (y' := y') hy cs (pre.take (nxs w (pre ++ y) (u.length + 1) c)) (pre.drop (nxs w (pre ++ y) (u.length + 1) c)) (List.take_append_drop _ _).symm (by rw [el]; exact h')
      rw [el] at r
      exact r
    · rw [if_neg hc] at h'; cases h'
end Mth
namespace Mth
variable {α : Type} (w : α → Nat)
theorem end_step {l : List α} (h : forest w l 1 = true) {p t : Nat} {k : α} (hk : l[p]? = some k) (ht : t < w k) : nxs w l (p + 1) t < l.length ∧ p + 1 ≤ nxs w l (p + 1) t ∧ nxs w l (nxs w l (p + 1) t) 1 = nxs w l (p + 1) (t + 1) := by
  have hp := (List.getElem?_eq_some_iff.mp hk).1
  obtain ⟨m, F⟩ := Fst.all w h p (Nat.le_of_lt hp)
  obtain ⟨n, rfl⟩ := F.pos w hp
  have G := F.in w hk
  refine ⟨nxs_lt_of w (b := w k - t + n) (by rw [show t + (w k - t + n) = w k + n by omega]; exact G) (by omega), nxs_ge w l t hp, ?_⟩
  rw [nxs_add]
theorem end_last {l : List α} {p : Nat} {k : α} (hk : l[p]? = some k) : nxs w l (p + 1) (w k) = nxs w l p 1 := by
  have q := nxs_in w (m := 0) hk 0
  rw [Nat.add_zero] at q
  exact q.symm
/-- the ends of the branches at all places -/
def ends (l : List α) : List Int := (List.range l.length).map fun j => ((nxs w l j 1 : Nat) : Int)
theorem ends_len (l : List α) : (ends w l).length = l.length := by simp [ends]
theorem ends_get {l : List α} {j : Nat} (h : j < l.length) : (ends w l)[j]? = some ((nxs w l j 1 : Nat) : Int) := by
  unfold ends
  rw [List.getElem?_map, List.getElem?_range h]; rfl
theorem ends_of_get {l : List α} {es : List Int} (hl : es.length = l.length) (h : ∀ j, j < l.length → es[j]? = some ((nxs w l j 1 : Nat) : Int)) : es = ends w l := by
  refine List.ext_getElem? fun j => ?_
  by_cases hj : j < l.length
  · rw [h j hj, ends_get w hj]
  · rw [List.getElem?_eq_none (by omega), List.getElem?_eq_none (by rw [ends_len]; omega)]
/-- how much is missing ahead of place i -/
theorem miss {l : List α} (h : forest w l 1 = true) : ∀ i, i ≤ l.length → Fst w l i (1 + ((l.take i).map w).sum - i) ∧ i ≤ 1 + ((l.take i).map w).sum
  | 0, _ => ⟨⟨Nat.zero_le _, by rw [List.drop_zero]; exact h⟩, Nat.zero_le _⟩
  | i + 1, hi => by
    obtain ⟨F, q⟩ := miss h i (by omega)
    have hi' : i < l.length := by omega
    obtain ⟨n, hn⟩ := F.pos w hi'
    have hk : l[i]? = some l[i] := List.getElem?_eq_getElem hi'
    have e : ((l.take (i + 1)).map w).sum = ((l.take i).map w).sum + w l[i] := by
      rw [List.take_add_one, hk, List.map_append, List.sum_append]
      show _ + (w l[i] + 0) = _
      rw [Nat.add_zero]
    rw [hn] at F
    have G := F.in w hk
    rw [e]
    rw [show 1 + (((l.take i).map w).sum + w l[i]) - (i + 1) = w l[i] + n by omega]
    exact ⟨G, by omega⟩
end Mth
end
section
set_option Elab.async false
set_option linter.all false
set_option maxRecDepth 100000
set_option maxHeartbeats 2000000
namespace Sh
open PySem PySem.Spec PyProof.Rows L2
def top (i : Nat) : Stmt := PySem.Challenge.pw_shearyard_k33_peaks_in_order.main.body.getD i (.Pass ⟨0, 0, 0, 0⟩)
/-- the built-ins and constants by their names -/
structure Bl (mg : Str → Option Value) : Prop where
  b_len : mg "len" = none
  b_range : mg "range" = none
  b_abs : mg "abs" = none
  b_int : mg "int" = none
  b_max : mg "max" = none
  b_all : mg "all" = none
  b_isinstance : mg "isinstance" = none
  b_set : mg "set" = none
  b_list : mg "list" = none
  b_tuple : mg "tuple" = none
  b_bool : mg "bool" = none
  b_str : mg "str" = none
  b_enumerate : mg "enumerate" = none
  c_MOST_KINDS : ∃ t, mg "MOST_KINDS" = some (.int 8 t)
  c_MOST_BRANCHES : ∃ t, mg "MOST_BRANCHES" = some (.int 3 t)
  c_LONGEST_NAME : ∃ t, mg "LONGEST_NAME" = some (.int 8 t)
  c_LETTERS : ∃ t, mg "LETTERS" = some (.str "abcdefghijklmnopqrstuvwxyz" t)
theorem pe_cI {X : Cx} {x : Str} {i : Int} {pos : Pos} (hg : Gl X x) (h : ∃ t, X.mg x = some (.int i t)) (hd : (x == ("__debug__" : Str)) = false := by decide) : PE X (.Name x pos) (tC (.int i)) := by
  obtain ⟨t, e⟩ := h
  exact pe_glob hg e ⟨t, rfl⟩ hd
theorem pe_cS {X : Cx} {x z : Str} {pos : Pos} (hg : Gl X x) (h : ∃ t, X.mg x = some (.str z t)) (hd : (x == ("__debug__" : Str)) = false := by decide) : PE X (.Name x pos) (tC (.str z)) := by
  obtain ⟨t, e⟩ := h
  exact pe_glob hg e ⟨t, rfl⟩ hd
/-! ### the bag -/
/-- all that stood stands, but what is at a -/
def Kp (a : Addr) (H H' : Hp) : Prop := ∀ b o, H b = some o → b ≠ a → H' b = some o
theorem Kp.refl (a : Addr) (H : Hp) : Kp a H H := fun _ _ h _ => h
theorem Kp.trans {a : Addr} {H H1 H2 : Hp} (x : Kp a H H1) (y : Kp a H1 H2) : Kp a H H2 := fun b o h n => y b o (x b o h n) n
theorem Kp.upd {a : Addr} {H H1 : Hp} {o : HO} (x : Kp a H H1) : Kp a H (upd H1 a o) := fun b u h n => by rw [upd_ne n]; exact x b u h n
theorem Kp.same {a : Addr} {H H' : Hp} (x : Same H H') : Kp a H H' := fun b o h _ => x b o h
structure Bg (z0 z1 z2 z3 : Int) (cs : List Int) : Prop where
  lo : 4 ≤ z3
  hi : z3 ≤ 4 + cs.length
  sz : cs.length ≤ 63
  nn : ∀ c ∈ cs, 0 ≤ c
def bgL (z0 z1 z2 z3 : Int) (cs : List Int) : List V := .int z0 :: .int z1 :: .int z2 :: .int z3 :: cs.map V.int
def BagAt (H : Hp) (a : Addr) : Prop := ∃ z0 z1 z2 z3 cs, H a = some (.lst (bgL z0 z1 z2 z3 cs)) ∧ Bg z0 z1 z2 z3 cs
def spDraw : Sp := fun vs H Q _ => ∃ (a : Addr) (n : Int), vs = [.ref a, .int n] ∧ BagAt H a ∧ 1 ≤ n ∧ n < 1000000 ∧ ∀ H' d, Kp a H H' → BagAt H' a → 0 ≤ d → d < n → Q (.int d) H'
open C8 (pss_cut tCut)
open Evl (ixN_nat)
theorem bgi {z0 z1 z2 z3 : Int} {cs : List Int} (j : Nat) (h : j < 4) : ixN (bgL z0 z1 z2 z3 cs).length (j : Int) = some j := ixN_nat (by unfold bgL; simp only [List.length_cons]; omega)
theorem int_eq0 {a b : Int} (h : decide (V.int a = V.int b) = true) : a = b := V.int.inj (of_decide_eq_true h)
section
variable {P : Program} {w : World} {K : PySem.W.Frag} {mg : Str → Option Value} {base : Heap}
end
end Sh
end
section
set_option Elab.async false
set_option linter.all false
set_option maxRecDepth 100000
set_option maxHeartbeats 2000000
set_option autoImplicit false
namespace Sh
open PySem PySem.Spec PyProof.Rows L2
open C8 (pss_cut tCut)
open Evl (ixN_nat)
open TL (tl joinL tl_join join_eq)
end Sh
namespace L2
open PySem PySem.Spec PyProof.Rows
theorem Same.upd_new {H H1 : Hp} {p : Addr} {o : HO} (s : Same H H1) (hp : H1 p = none) : Same H (upd H1 p o) := fun b u h => by
  rw [upd_ne (ne_of_none (s b u h) hp)]
  exact s b u h
theorem Same.upd_own {H H1 : Hp} {p : Addr} {o : HO} (s : Same H H1) (hp : H p = none) : Same H (upd H1 p o) := fun b u h => by
  rw [upd_ne (ne_of_none h hp)]
  exact s b u h
end L2
namespace Sh
open PySem PySem.Spec PyProof.Rows L2
open C8 (pss_cut tCut)
open Evl (ixN_nat)
open TL (tl joinL tl_join join_eq)
theorem get_map {α β : Type} {f : α → β} {l : List α} {i : Nat} {y : β} (h : (l.map f)[i]? = some y) : ∃ x, l[i]? = some x ∧ y = f x := by
  rw [List.getElem?_map] at h
  cases e : l[i]? with
  | none => rw [e] at h; cases h
  | some x => rw [e] at h; exact ⟨x, rfl, (Option.some.inj h).symm⟩
theorem take_snoc {α : Type} {l : List α} {i : Nat} {x : α} (h : l[i]? = some x) : l.take i ++ [x] = l.take (i + 1) := by
  rw [List.take_add_one, h]
  rfl
theorem lt_of_get {α : Type} {l : List α} {i : Nat} {x : α} (h : l[i]? = some x) : i < l.length := (List.getElem?_eq_some_iff.mp h).1
theorem mem_of_get {α : Type} {l : List α} {i : Nat} {x : α} (h : l[i]? = some x) : x ∈ l := List.mem_of_getElem? h
theorem le_line {n : Nat} (h : n ≤ 100000) : n ≤ sizeLine := Nat.le_trans h (by rw [sizeLine_eq]; decide)
theorem lt_line {n : Nat} (h : n ≤ 100000) : n < sizeLine := Nat.lt_of_le_of_lt h (by rw [sizeLine_eq]; decide)
theorem at_ofG {α : Type} {xs : List α} {z : Int} {j : Nat} {v : α} (e : z = (j : Int)) (h : xs[j]? = some v) : atI xs z = some v := by
  rw [e]
  exact atI_nat h
/-! ### names -/
def IsNm (z : Str) : Prop := 1 ≤ z.cps.size ∧ z.cps.size ≤ 8 ∧ ∀ c ∈ z.cps.toList, 97 ≤ c ∧ c ≤ 122
def sg (c : Nat) : Str := ⟨#[c]⟩
theorem tl_sg (c : Nat) : tl (sg c) = [c] := rfl
theorem joinL_nil : ∀ l : List (List Nat), joinL [] l = l.flatten
  | [] => rfl
  | [p] => by simp [joinL]
  | p :: q :: r => by
    show p ++ ([] ++ joinL [] (q :: r)) = _
    rw [List.nil_append, joinL_nil (q :: r)]
    simp only [List.flatten_cons]
theorem join_sgs (cs : List Nat) : (Txt.join "" (cs.map sg)).cps.toList = cs := by
  have e : tl (Txt.join "" (cs.map sg)) = cs := by
    rw [join_eq, tl_join, show tl ("" : Str) = [] from rfl, joinL_nil, List.map_map]
    induction cs with
    | nil => rfl
    | cons c r ih =>
      rw [List.map_cons, List.flatten_cons, ih]
      rfl
  exact e
theorem letters_at (d : Nat) (h : d < 26) : (("abcdefghijklmnopqrstuvwxyz" : Str).cps.toList)[d]? = some (97 + d) := by
  have z : ∀ d, d < 26 → (("abcdefghijklmnopqrstuvwxyz" : Str).cps.toList)[d]? = some (97 + d) := by decide +kernel
  exact z d h
theorem letters_len : ("abcdefghijklmnopqrstuvwxyz" : Str).length = 26 := by decide +kernel
def spBag (K : PySem.W.Frag) : Sp := fun vs H Q _ => ∃ (a : Addr) (ns : List Int), vs = [.ref a] ∧ SqL K H a (ns.map V.int) ∧ ns.length ≤ 63 ∧ ∀ H' p, Same H H' → H p = none → BagAt H' p → Q (.ref p) H'
def spWord : Sp := fun vs H Q _ => ∃ a, vs = [.ref a] ∧ BagAt H a ∧ ∀ H' z, Kp a H H' → BagAt H' a → IsNm z → Q (.str z) H'
theorem Kp.bag_ne {a b : Addr} {H : Hp} (hb : BagAt H a) (h : H b = none) : b ≠ a := fun e => by
  obtain ⟨z0, z1, z2, z3, cs, q, _⟩ := hb
  rw [e, q] at h
  cases h
theorem Kp.upd_new {a p : Addr} {H H1 : Hp} {o : HO} (x : Kp a H H1) (hp : H1 p = none) : Kp a H (L2.upd H1 p o) := fun b u h n => by
  have q := x b u h n
  rw [upd_ne (ne_of_none q hp)]
  exact q
theorem Kp.upd_own {a p : Addr} {H H1 : Hp} {o : HO} (x : Kp a H H1) (hp : H p = none) : Kp a H (L2.upd H1 p o) := fun b u h n => by
  rw [upd_ne (ne_of_none h hp)]
  exact x b u h n
theorem BagAt.upd_ne {a p : Addr} {H : Hp} {o : HO} (h : BagAt H a) (n : p ≠ a) : BagAt (upd H p o) a := by
  obtain ⟨z0, z1, z2, z3, cs, q, B⟩ := h
  exact ⟨z0, z1, z2, z3, cs, by rw [L2.upd_ne (Ne.symm n)]; exact q, B⟩
section
variable {P : Program} {w : World} {K : PySem.W.Frag} {mg : Str → Option Value} {base : Heap}
end
end Sh
end
section
set_option Elab.async false
set_option linter.all false
set_option maxRecDepth 100000
set_option maxHeartbeats 2000000
set_option autoImplicit false
namespace Sh
open PySem PySem.Spec PyProof.Rows L2
open C8 (pss_cut tCut)
open Evl (ixN_nat)
open TL (tl joinL tl_join join_eq tl_append)
theorem Kp.free_of {a p : Addr} {H H1 : Hp} (x : Kp a H H1) (h : H1 p = none) (n : p ≠ a) : H p = none := by
  cases e : H p with
  | none => rfl
  | some o =>
    rw [x p o e n] at h
    cases h
theorem inV_str (w : Str) (ns : List Str) : inV (.str w) (ns.map V.str) = decide (w ∈ ns) := by
  induction ns with
  | nil => rfl
  | cons n r ih =>
    have e : inV (.str w) ((n :: r).map V.str) = ((n == w) || inV (.str w) (r.map V.str)) := rfl
    rw [e, ih, Bool.eq_iff_iff, Bool.or_eq_true, beq_iff_eq, decide_eq_true_iff, decide_eq_true_iff, List.mem_cons]
    exact or_congr_left eq_comm
theorem flat_strs (ns : List Str) : (ns.map V.str).all flatV = true := by
  rw [List.all_eq_true]
  intro x hx
  obtain ⟨y, _, rfl⟩ := List.mem_map.mp hx
  rfl
theorem flat_ints (ns : List Int) : (ns.map V.int).all flatV = true := by
  rw [List.all_eq_true]
  intro x hx
  obtain ⟨y, _, rfl⟩ := List.mem_map.mp hx
  rfl
theorem sub_len {α : Type} [DecidableEq α] : ∀ (l m : List α), l.Nodup → (∀ x ∈ l, x ∈ m) → l.length ≤ m.length
  | [], _, _, _ => Nat.zero_le _
  | a :: l, m, nd, h => by
    rw [List.nodup_cons] at nd
    have ha := h a List.mem_cons_self
    have z := sub_len l (m.erase a) nd.2 fun x hx => (List.mem_erase_of_ne (fun e => nd.1 (by rw [← e]; exact hx))).mpr (h x (List.mem_cons_of_mem _ hx))
    rw [List.length_erase_of_mem ha] at z
    have p := List.length_pos_of_mem ha
    rw [List.length_cons]
    omega
def lets : List Str := (List.range 26).map fun d => sg (97 + d)
theorem lets_nd : lets.Nodup := by decide +kernel
theorem lets_get {i : Nat} (h : i < 26) : (("abcdefghijklmnopqrstuvwxyz" : Str).cps)[i]? = some (97 + i) := by
  rw [← Array.getElem?_toList]
  exact letters_at i h
theorem nm_sg {c : Nat} (h : 97 ≤ c ∧ c ≤ 122) : IsNm (sg c) := ⟨by show 1 ≤ 1; decide, by show 1 ≤ 8; decide, fun x hx => by
  have z : x = c := List.mem_singleton.mp hx
  rw [z]; exact h⟩
def spName (K : PySem.W.Frag) : Sp := fun vs H Q _ => ∃ (a t : Addr) (ns : List Str), vs = [.ref a, .ref t] ∧ BagAt H a ∧ t ≠ a ∧ H t = some (.lst (ns.map V.str)) ∧ (∀ n ∈ ns, IsNm n) ∧ ns.length ≤ 7 ∧ ∀ H' z, Kp a H H' → BagAt H' a → IsNm z → z ∉ ns → Q (.str z) H'
theorem str_len (z : Str) : z.length = z.cps.size := rfl
theorem nm_line {z : Str} (h : IsNm z) : z.length ≤ sizeLine := le_line (Nat.le_trans h.2.1 (by decide))
theorem nm_app {x y : Str} (hx : IsNm x) (hy : IsNm y) (hl : x.length < 8) {c : Nat} (hc : y.cps.toList[0]? = some c) : IsNm (x ++ sg c) := by
  have e : (x ++ sg c).cps.toList = x.cps.toList ++ [c] := tl_append x (sg c)
  have el : (x ++ sg c).cps.size = x.cps.size + 1 := by
    rw [← Array.length_toList, e, List.length_append, Array.length_toList]
    rfl
  refine ⟨by rw [el]; omega, by rw [el]; rw [str_len] at hl; omega, fun z hz => ?_⟩
  rw [e] at hz
  rcases List.mem_append.mp hz with q | q
  · exact hx.2.2 z q
  · rw [List.mem_singleton.mp q]
    exact hy.2.2 c (List.mem_of_getElem? hc)
theorem nm_cut {x : Str} (hx : IsNm x) (hl : 1 < x.length) : IsNm (cutS x none (some (-1))) := by
  have e : (cutS x none (some (-1))).cps.toList = x.cps.toList.take (x.cps.size - 1) := by
    have h1 : HT.sIx x.length 0 none = 0 := rfl
    have h2 : HT.sIx x.length x.length (some (-1)) = x.cps.size - 1 := by
      rw [str_len] at hl ⊢
      unfold HT.sIx
      simp
      omega
    unfold cutS
    rw [h1, h2]
    simp
  have el : (cutS x none (some (-1))).cps.size = x.cps.size - 1 := by
    rw [← Array.length_toList, e, List.length_take, Array.length_toList]
    omega
  rw [str_len] at hl
  refine ⟨by rw [el]; omega, by rw [el]; have := hx.2.1; omega, fun z hz => ?_⟩
  rw [e] at hz
  exact hx.2.2 z (List.mem_of_mem_take hz)
theorem nm_first {x : Str} (hx : IsNm x) : ∃ c, x.cps.toList[0]? = some c := by
  have h := hx.1
  rw [← Array.length_toList] at h
  exact ⟨_, List.getElem?_eq_getElem (by omega)⟩
section
variable {P : Program} {w : World} {K : PySem.W.Frag} {mg : Str → Option Value} {base : Heap}
end
end Sh
end
section
set_option Elab.async false
set_option linter.all false
set_option maxRecDepth 100000
set_option maxHeartbeats 2000000
set_option autoImplicit false
namespace Sh
open PySem PySem.Spec PyProof.Rows L2
open C8 (pss_cut tCut)
open Evl (ixN_nat)
abbrev Row := Str × Int
/-- tuples stay -/
def TK (H H' : Hp) : Prop := ∀ t xs, H t = some (.tup xs) → H' t = some (.tup xs)
theorem TK.refl (H : Hp) : TK H H := fun _ _ h => h
theorem TK.trans {H H1 H2 : Hp} (x : TK H H1) (y : TK H1 H2) : TK H H2 := fun t xs h => y t xs (x t xs h)
theorem TK.new {H : Hp} {p : Addr} {o : HO} (h : H p = none) : TK H (upd H p o) := fun t xs q => by
  rw [upd_ne (ne_of_none q h)]
  exact q
theorem TK.lst {H : Hp} {p : Addr} {ys : List V} {o : HO} (h : H p = some (.lst ys)) : TK H (upd H p o) := fun t xs q => by
  rw [upd_ne (ne_of q h (fun e => nomatch e))]
  exact q
theorem TK.of_same {H H' : Hp} (s : Same H H') : TK H H' := fun t xs q => s t _ q
theorem Kp.tk {a : Addr} {H H' : Hp} (x : Kp a H H') (b : BagAt H a) : TK H H' := fun t xs q => by
  obtain ⟨z0, z1, z2, z3, cs, hb, _⟩ := b
  exact x t _ q (ne_of q hb (fun e => nomatch e))
def TupsAt (H : Hp) (ts : List Addr) (rows : List Row) : Prop := ts.length = rows.length ∧ ∀ (i : Nat) (t : Addr) (q : Row), ts[i]? = some t → rows[i]? = some q → H t = some (.tup [.str q.1, .int q.2])
theorem TupsAt.keep {H H' : Hp} {ts : List Addr} {rows : List Row} (x : TupsAt H ts rows) (k : TK H H') : TupsAt H' ts rows := ⟨x.1, fun i t q a b => k _ _ (x.2 i t q a b)⟩
theorem TupsAt.snoc {H : Hp} {ts : List Addr} {rows : List Row} {t : Addr} {q : Row} (x : TupsAt H ts rows) (h : H t = some (.tup [.str q.1, .int q.2])) : TupsAt H (ts ++ [t]) (rows ++ [q]) := by
  refine ⟨by simp [x.1], fun i t' q' a b => ?_⟩
  by_cases hi : i < ts.length
  · rw [List.getElem?_append_left hi] at a
    rw [List.getElem?_append_left (by rw [← x.1]; exact hi)] at b
    exact x.2 i t' q' a b
  · have hl := lt_of_get a
    rw [List.length_append, List.length_singleton] at hl
    have e : i = ts.length := by omega
    subst e
    rw [List.getElem?_append_right (Nat.le_refl _), Nat.sub_self] at a
    rw [x.1, List.getElem?_append_right (Nat.le_refl _), Nat.sub_self] at b
    cases a
    cases b
    exact h
def RowsAt (H : Hp) (r : Addr) (rows : List Row) : Prop := ∃ ts, H r = some (.lst (ts.map V.ref)) ∧ TupsAt H ts rows
structure ROk (most : Int) (rows : List Row) : Prop where
  pos : 1 ≤ rows.length
  len : (rows.length : Int) ≤ most
  nd : (rows.map (·.1)).Nodup
  nm : ∀ q ∈ rows, IsNm q.1
  wd : ∀ q ∈ rows, 0 ≤ q.2 ∧ q.2 ≤ 3
  leaf : ∃ q ∈ rows, q.2 = 0
def spRows : Sp := fun vs H Q _ => ∃ (a : Addr) (m : Int), vs = [.ref a, .int m] ∧ BagAt H a ∧ 1 ≤ m ∧ m ≤ 8 ∧ ∀ H' r rows, Kp a H H' → BagAt H' a → H r = none → RowsAt H' r rows → ROk m rows → Q (.ref r) H'
theorem mem_map_ints {ws : List Int} {n : Int} : inV (.int n) (ws.map V.int) = decide (n ∈ ws) := by
  induction ws with
  | nil => rfl
  | cons z r ih =>
    have e : inV (.int n) ((z :: r).map V.int) = ((z == n) || inV (.int n) (r.map V.int)) := rfl
    rw [e, ih, Bool.eq_iff_iff, Bool.or_eq_true, beq_iff_eq, decide_eq_true_iff, decide_eq_true_iff, List.mem_cons]
    exact or_congr_left eq_comm
theorem zip_snoc {ns : List Str} {ws : List Int} {i : Nat} {n : Str} {z : Int} (h1 : ns[i]? = some n) (h2 : ws[i]? = some z) : (ns.zip ws).take i ++ [(n, z)] = (ns.zip ws).take (i + 1) :=
  take_snoc (List.getElem?_zip_eq_some.mpr ⟨h1, h2⟩)
section
variable {P : Program} {w : World} {K : PySem.W.Frag} {mg : Str → Option Value} {base : Heap}
end
end Sh
end
section
set_option Elab.async false
set_option linter.all false
set_option maxRecDepth 100000
set_option maxHeartbeats 2000000
set_option autoImplicit false
namespace Sh
open PySem PySem.Spec PyProof.Rows L2
open C8 (pss_cut tCut)
open Evl (ixN_nat)
theorem iteNN {c A B : Prop} [Decidable c] (hc : ¬ c) (h : A) : if (!decide c) = true then A else B := by
  rw [decide_eq_false hc]
  exact iteT h
def spTrueNm : Sp := fun vs H Q _ => ∃ z, vs = [.str z] ∧ IsNm z ∧ ∀ H', Same H H' → Q (.bl true) H'
theorem in_letters (c : Nat) (h : 97 ≤ c ∧ c ≤ 122) : c ∈ ("abcdefghijklmnopqrstuvwxyz" : Str).cps.toList := by
  have z := letters_at (c - 97) (by omega)
  rw [show 97 + (c - 97) = c by omega] at z
  exact List.mem_of_getElem? z
abbrev s_all_letters : Stmt := top 28
abbrev N_all_letters : List Str := ["text", "letter"]
theorem sc_all_letters : FnScope N_all_letters ["text"] (defScope s_all_letters) := ⟨rfl, rfl, rfl, by decide +kernel, rfl, by decide +kernel, by decide +kernel⟩
abbrev s_is_name : Stmt := top 29
abbrev N_is_name : List Str := ["text"]
theorem sc_is_name : FnScope N_is_name ["text"] (defScope s_is_name) := ⟨rfl, rfl, rfl, by decide +kernel, rfl, by decide +kernel, by decide +kernel⟩
abbrev s_check_pairs : Stmt := top 32
abbrev N_check_pairs : List Str := ["pairs", "seen", "place", "name", "many", "_"]
theorem sc_check_pairs : FnScope N_check_pairs ["pairs"] (defScope s_check_pairs) := ⟨rfl, rfl, rfl, by decide +kernel, rfl, by decide +kernel, by decide +kernel⟩
theorem walk_enumT {K : PySem.W.Frag} {a : Addr} {xs : List V} : Walk (IteT K a) xs.length (fun H => SqT K H a xs) (YPair (fun i => some (.int (i : Nat))) (fun i => xs[i]?)) := by
  refine ⟨fun i _ hi q => ⟨xs, xs[i], q, by simp [hi]⟩, fun _ q => ⟨xs, q, Nat.le_refl _⟩, fun i H v H' _ q y => ?_⟩
  obtain ⟨T, x, h1, h2, h3, h4⟩ := y
  exact ⟨T, .int (i : Nat), x, h1, h2, h3, rfl, h4 xs q⟩
theorem TupsAt.at {H : Hp} {ts : List Addr} {rows : List Row} (x : TupsAt H ts rows) {i : Nat} (h : i < rows.length) : ∃ t, ts[i]? = some t ∧ (ts.map V.ref)[i]? = some (.ref t) ∧ H t = some (.tup [.str (rows[i]).1, .int (rows[i]).2]) := by
  have h2 : i < ts.length := by rw [x.1]; exact h
  exact ⟨ts[i], List.getElem?_eq_getElem h2, by rw [List.getElem?_map, List.getElem?_eq_getElem h2]; rfl, x.2 i _ _ (List.getElem?_eq_getElem h2) (List.getElem?_eq_getElem h)⟩
theorem nd_take {α : Type} {l : List α} (nd : l.Nodup) {i : Nat} (h : i < l.length) : l[i] ∉ l.take i := fun q => by
  obtain ⟨j, hj, e⟩ := List.mem_iff_getElem.mp q
  rw [List.getElem_take] at e
  rw [List.length_take] at hj
  have := (List.getElem_inj nd).mp e
  omega
def spPairs : Sp := fun vs H Q _ => ∃ (p : Addr) (ts : List Addr) (rows : List Row), vs = [.ref p] ∧ H p = some (.tup (ts.map V.ref)) ∧ TupsAt H ts rows ∧ ROk 8 rows ∧ ∀ H', Same H H' → Q .non H'
section
variable {P : Program} {w : World} {K : PySem.W.Frag} {mg : Str → Option Value} {base : Heap}
theorem ok_all_letters (T : Bl mg) (D : Def0 K mg "all_letters" s_all_letters) : DefOk P w K mg base CX0 1 "all_letters" spTrueNm := by
  refine D.ok sc_all_letters (fun vs H Q E h => ?_) (fun _ _ _ _ _ _ us hl => match us, hl with | [_], _ => rfl) (fun f cdv A outer s H vs Q E hr h => ?_)
  · obtain ⟨z, rfl, _⟩ := h
    rfl
  · obtain ⟨z, rfl, nz, k⟩ := h
    refine ⟨_, (pss_one (ps_ret (pe_and (pe_cmpR op_ne (pv 0) pe_str (nomark _)) (pe_one (pe_callB (cr_all rfl) (by rfl) T.b_all (by decide +kernel) (pa_cons (pe_lc (own := [("letter", 1)]) (g := (gName 1)) (tt := tYes) rfl sc_all_letters.nd (pi_str (pv 0)) (blkOk_by (N := N_all_letters) (sc := defScope s_all_letters) (by decide +kernel)) (fun _ _ _ _ _ => (pg_name (i := 1) sc_all_letters.nd rfl (Or.inl rfl))) (fun _ _ _ _ _ => pts_nil) (fun _ _ _ _ _ => (pe_cmpR op_in_sign (pv 1) (pe_cS (by rfl) T.c_LETTERS) (by rfl)))) pa_nil)))))), ?_⟩
    have hne : ¬ V.str z = V.str "" := fun e => by
      have e2 := V.str.inj e
      have := nz.1
      rw [e2] at this
      exact absurd this (by decide)
    refine ⟨_, rfl, rfl, _, rfl, iteNN hne ?_⟩
    refine ⟨_, rfl, _, rfl, fun D hD => lc_it walk_str (fun i H' => Same H H' ∧ H' D = some (.lst ((List.replicate i true).map V.bl))) ⟨(Same.refl H).upd_new hD, upd_same⟩ (fun _ _ _ _ => trivial) ?_ ?_⟩
    · rintro i x H1 H2 hi ⟨q1, q2⟩ ⟨rfl, c, hc, rfl⟩
      have hcm : c ∈ z.cps.toList := List.mem_of_getElem? (by rw [Array.getElem?_toList]; exact hc)
      refine ⟨rfl, _, rfl, c, _, rfl, rfl, ?_⟩
      rw [decide_eq_true (in_letters c (nz.2.2 c hcm))]
      refine ⟨_, q2, ?_, q1.upd_own hD, ?_⟩
      · rw [List.length_map, List.length_replicate]
        have := nz.2.1
        exact lt_line (by omega)
      · rw [upd_same, List.replicate_succ', List.map_append]
        rfl
    · rintro H1 ⟨q1, q2⟩
      refine ⟨D, _, rfl, SqL.of q2, ?_⟩
      rw [show (List.replicate z.cps.size true).all id = true from by rw [List.all_eq_true]; intro x hx; exact (List.mem_replicate.mp hx).2]
      exact k H1 q1
theorem ok_is_name (T : Bl mg) (c_all_letters : DefOk P w K mg base CX0 1 "all_letters" spTrueNm) (D : Def0 K mg "is_name" s_is_name) : DefOk P w K mg base CX0 2 "is_name" spTrueNm := by
  refine D.ok sc_is_name (fun vs H Q E h => ?_) (fun _ _ _ _ _ _ us hl => match us, hl with | [_], _ => rfl) (fun f cdv A outer s H vs Q E hr h => ?_)
  · obtain ⟨z, rfl, _⟩ := h
    rfl
  · obtain ⟨z, rfl, nz, k⟩ := h
    refine ⟨_, (pss_one (ps_ret (pe_and (pe_cmpR op_le (pe_callB call_len_str (by rfl) T.b_len boot_len (pa_cons (pv 0) pa_nil)) (pe_cI (by rfl) T.c_LONGEST_NAME) (nomark _)) (pe_one (pe_d c_all_letters (hr.mono (by decide)) pass0 (pa_cons (pv 0) pa_nil)))))), ?_⟩
    refine ⟨_, rfl, _, rfl, nm_line nz, _, _, rfl, rfl, _, rfl, ?_⟩
    rw [decide_eq_true (show ((z.length : Nat) : Int) ≤ 8 by have := nz.2.1; rw [str_len]; omega)]
    refine iteT ?_
    exact ⟨_, rfl, z, rfl, nz, k⟩
theorem ok_check_pairs (T : Bl mg) (c_is_name : DefOk P w K mg base CX0 2 "is_name" spTrueNm) (D : Def0 K mg "check_pairs" s_check_pairs) : DefOk P w K mg base CX0 3 "check_pairs" spPairs := by
  refine D.ok sc_check_pairs (fun vs H Q E h => ?_) (fun _ _ _ _ _ _ us hl => match us, hl with | [_], _ => rfl) (fun f cdv A outer s H vs Q E hr h => ?_)
  · obtain ⟨p, ts, rows, rfl, _⟩ := h
    rfl
  · obtain ⟨p, ts, rows, rfl, hp, hT, R, k⟩ := h
    refine ⟨_, (pss_cons (ps_if (pt_cmpR op_gt (pe_callB call_len_seq (by rfl) T.b_len boot_len (pa_cons (pv 0) pa_nil)) (pe_cI (by rfl) T.c_MOST_KINDS) (nomark _))
        (pss_one ps_never)
        pss_nil)
      (pss_cons (ps_set (i := 1) sc_check_pairs.nd rfl (Or.inl rfl) (pe_callTy0 cr_set0K (by rfl) T.b_set (by decide +kernel)))
      (pss_cons (ps_for PassesOwn.never rfl (pi_enumT (by rfl) T.b_enumerate (pa_cons (pv 0) pa_nil)) (pg_tup (by rfl) (pgs_cons (pg_name (i := 2) sc_check_pairs.nd rfl (Or.inl rfl)) (pgs_cons (pg_tup (by rfl) (pgs_cons (pg_name (i := 3) sc_check_pairs.nd rfl (Or.inl rfl)) (pgs_cons (pg_name (i := 4) sc_check_pairs.nd rfl (Or.inl rfl)) pgs_nil))) pgs_nil)))
        (pss_cons (ps_if (PW.pt (pw_or (pt_not (pt_val (pe_d c_is_name (hr.mono (by decide)) pass0 (pa_cons (pv 3) pa_nil)))) (pw_or (pt_cmpR op_lt (pv 4) pe_int (nomark _)) (pw_or (pt_cmpR op_gt (pv 4) (pe_cI (by rfl) T.c_MOST_BRANCHES) (nomark _)) (pw_or1 (pt_cmpR or_sinK (pv 3) (pv 1) (by rfl)))))))
          (pss_one ps_never)
          pss_nil)
        (pss_one (ps_expr (pe_saddK (pv 1) (pa_cons (pv 3) pa_nil))))))
      (pss_one (ps_if (pt_cmpR op_notIn_seq pe_int (pe_lc (own := [("_", 5), ("many", 4)]) (g := (gTup K 2 (gCons (gName 5) (gCons (gName 4) gNil)))) (tt := tYes) rfl sc_check_pairs.nd (pi_tup (pv 0)) (blkOk_by (N := N_check_pairs) (sc := defScope s_check_pairs) (by decide +kernel)) (fun _ _ _ _ _ => (pg_tup (by rfl) (pgs_cons (pg_name (i := 5) sc_check_pairs.nd rfl (Or.inl rfl)) (pgs_cons (pg_name (i := 4) sc_check_pairs.nd rfl (Or.inl rfl)) pgs_nil)))) (fun _ _ _ _ _ => pts_nil) (fun _ _ _ _ _ => (pv 4))) (by rfl))
        (pss_one ps_never)
        pss_nil))))), ?_⟩
    have hlen : ts.length = rows.length := hT.1
    have R8 : rows.length ≤ 8 := by have := R.len; omega
    refine ⟨_, rfl, p, _, rfl, .inr (SqT.of hp), _, _, rfl, rfl, _, rfl, ?_⟩
    rw [decide_eq_false (show ¬ (8 : Int) < (((ts.map V.ref).length : Nat) : Int) by rw [List.length_map]; omega)]
    refine iteF ?_
    refine ⟨rfl, fun d hd => ?_⟩
    have s0 : Same H (upd H d (SetK P w d (fun _ => false) 0)) := (Same.refl H).upd_new hd
    have npd : ∀ {H' : Hp}, Same H H' → H' p = some (.tup (ts.map V.ref)) := fun q => q _ _ hp
    refine ⟨_, rfl, p, _, rfl, SqT.of (npd s0), for_it (walk_enumT (xs := ts.map V.ref)) (fun i σ H' => ∃ (x y z : Option V), σ = [some (.ref p), some (.ref d), x, y, z, none] ∧ Same H H' ∧ ∃ (S : Key → Bool) (n : Nat), H' d = some (SetK P w d S n) ∧ n ≤ i ∧ ∀ u : Str, S (.inr u) = true → u ∈ (rows.map (·.1)).take i)
      ⟨none, none, none, rfl, s0, _, 0, upd_same, Nat.le_refl _, fun u h => nomatch h⟩ (fun i σ H' _ ⟨_, _, _, _, q, _⟩ => SqT.of (npd q)) ?_ ?_⟩
    · rintro i v σ H1 H2 hi ⟨x, y, z, rfl, s1, S, n, hS, hn, hu⟩ ⟨P1, v1, v2, rfl, hP1, rfl, e1, e2⟩
      have hir : i < rows.length := by rw [List.length_map, hlen] at hi; exact hi
      obtain ⟨t, t1, t2, t3⟩ := hT.at hir
      have t2' : (ts.map V.ref)[i]? = some v2 := e2
      rw [t2] at t2'
      cases t2'
      cases e1
      have s2 := s1.upd_new (o := .tup [.int ((i : Nat) : Int), .ref t]) hP1
      have nm := R.nm _ (List.getElem_mem hir)
      have wd := R.wd _ (List.getElem_mem hir)
      refine ⟨P1, _, rfl, SqT.of upd_same, rfl, _, _, rfl, _, _, rfl, ?_⟩
      refine ⟨t, _, rfl, SqT.of (s2 _ _ t3), rfl, _, _, rfl, _, _, rfl, rfl, rfl, ?_⟩
      refine ⟨_, rfl, (rows[i]).1, rfl, nm, fun H3 s3 => ⟨true, rfl, ?_⟩⟩
      show if false = true then _ else _
      refine iteF ⟨_, rfl, _, _, rfl, rfl, _, rfl, ?_⟩
      rw [decide_eq_false (show ¬ (rows[i]).2 < 0 by omega)]
      refine iteF ⟨_, rfl, _, _, rfl, rfl, _, rfl, ?_⟩
      rw [decide_eq_false (show ¬ (3 : Int) < (rows[i]).2 by omega)]
      have hS3 : H3 d = some (SetK P w d S n) := s3 _ _ (by rw [upd_ne (ne_of_none hS hP1)]; exact hS)
      have hSf : S (.inr (rows[i]).1) = false := by
        cases q : S (.inr (rows[i]).1) with
        | false => rfl
        | true =>
          have z1 := hu _ q
          have z2 := nd_take (l := rows.map (·.1)) R.nd (i := i) (by rw [List.length_map]; exact hir)
          rw [List.getElem_map] at z2
          exact absurd z1 z2
      refine iteF ⟨_, rfl, _, rfl, .inr (rows[i]).1, d, S, n, rfl, rfl, hS3, _, rfl, ?_⟩
      rw [show (if false = true then !S (.inr (rows[i]).1) else S (.inr (rows[i]).1)) = false from hSf]
      refine iteF ?_
      refine ⟨_, rfl, ⟨d, S, n, rfl, hS3⟩, _, rfl, d, .inr (rows[i]).1, S, n, rfl, rfl, hS3, ?_, ?_⟩
      · show n + 1 < 4096
        omega
      · refine ⟨_, _, _, rfl, ?_, _, _, upd_same, ?_, ?_⟩
        · exact (s2.trans s3).upd_own hd
        · show (if S (Sum.inr (rows[i]).1) = true then n else n + 1) ≤ i + 1
          split <;> omega
        · intro u hu2
          have hg : (rows.map (·.1))[i]? = some (rows[i]).1 := by rw [List.getElem?_map, List.getElem?_eq_getElem hir]; rfl
          rw [← take_snoc hg]
          rcases Bool.or_eq_true_iff.mp hu2 with q | q
          · exact List.mem_append_left _ (hu u q)
          · have := of_decide_eq_true q
            rw [Sum.inr.inj this]
            exact List.mem_append_right _ List.mem_cons_self
    · rintro σ H1 ⟨x, y, z, rfl, s1, S, n, hS, hn, hu⟩
      refine ⟨_, rfl, p, rfl, ⟨_, SqT.of (npd s1)⟩, fun D hD => lc_it (walk_tup (xs := ts.map V.ref)) (fun i H' => Same H1 H' ∧ H' D = some (.lst (((rows.map (·.2)).take i).map V.int))) ⟨(Same.refl H1).upd_new hD, upd_same⟩ (fun i H' _ ⟨q, _⟩ => SqT.of (npd (s1.trans q))) ?_ ?_⟩
      · rintro i v H2 H3 hi ⟨q1, q2⟩ ⟨rfl, hv⟩
        have hir : i < rows.length := by rw [List.length_map, hlen] at hi; exact hi
        obtain ⟨t, t1, t2, t3⟩ := hT.at hir
        rw [t2] at hv
        cases hv
        refine ⟨t, _, rfl, SqT.of ((s1.trans q1) _ _ t3), rfl, _, _, rfl, _, _, rfl, rfl, rfl, ?_⟩
        refine ⟨_, rfl, _, q2, ?_, q1.upd_own hD, ?_⟩
        · rw [List.length_map, List.length_take]
          exact lt_line (by omega)
        · have hg : (rows.map (·.2))[i]? = some (rows[i]).2 := by rw [List.getElem?_map, List.getElem?_eq_getElem hir]; rfl
          rw [upd_same, ← take_snoc hg, List.map_append]
          rfl
      · rintro H2 ⟨q1, q2⟩
        rw [show (ts.map V.ref).length = (rows.map (·.2)).length by rw [List.length_map, List.length_map, hlen], List.take_length] at q2
        refine ⟨D, _, rfl, .inl (SqL.of q2), rfl, flat_ints _, _, rfl, ?_⟩
        have h0 : (0 : Int) ∈ rows.map (·.2) := by
          obtain ⟨q, hq, e⟩ := R.leaf
          rw [← e]
          exact List.mem_map_of_mem hq
        show if (!inV (V.int 0) ((rows.map (·.2)).map V.int)) = true then _ else _
        rw [mem_map_ints, decide_eq_true h0]
        refine iteF ?_
        exact k H2 (s1.trans q1)
end
end Sh
end
section
set_option Elab.async false
set_option linter.all false
set_option maxRecDepth 100000
set_option maxHeartbeats 2000000
set_option autoImplicit false
namespace L2
open PySem PySem.Spec PyProof.Rows
theorem PE.weak {X : Cx} {e : Expr} {t t' : TE} (h : PE X e t) (i : ∀ σ H Q, t' σ H Q → t σ H Q) : PE X e t' := ⟨fun pins s σ H Q I q => h.run pins s σ H Q I (i σ H Q q)⟩
/-- a dict comprehension over any walk -/
theorem dc_it {J : It} {n : Nat} {G : Hp → Prop} {Y : Nat → Hp → V → Hp → Prop} (w : Walk J n G Y) {g : TG} {tt : TT} {tk tv : TE} {vs : List Nat} {σ : St} {H1 : Hp} {D : Addr} {Qd : Hp → Prop} (Pv : Nat → Hp → Prop) (h0 : Pv 0 (upd H1 D (.dK []))) (hG : ∀ i H, i ≤ n → Pv i H → G H)
    (hs : ∀ i x H H', i < n → Pv i H → Y i H x H' → g x (wipe σ vs) H' fun σ2 H2 => wipe σ2 vs = wipe σ vs ∧ tt σ2 H2 fun b H3 =>
      if b = true then tk σ2 H3 fun y H4 => tv σ2 H4 fun z H5 => ∃ kvs k, y = kV k ∧ H5 D = some (.dK kvs) ∧ kvs.length < sizeLine ∧ Pv (i + 1) (upd H5 D (.dK (putK kvs k z))) else Pv (i + 1) H3) (hd : ∀ H, Pv n H → Qd H) :
    ∃ W : Nat → Nat → Hp → Prop, (∃ m, W 0 m (upd H1 D (.dK []))) ∧ ∀ i m H, W i m H →
      (J.stop i H ∧ Qd H) ∨ (J.go i H ∧ ∃ Nx : Hp → Prop, (∀ H', Nx H' → ∃ m', m' < m ∧ W (i + 1) m' H') ∧ ∀ x H', J.yld i H x H' → g x (wipe σ vs) H' fun σ2 H2 => wipe σ2 vs = wipe σ vs ∧ tt σ2 H2 fun b H3 =>
        if b = true then tk σ2 H3 fun y H4 => tv σ2 H4 fun z H5 => ∃ kvs k, y = kV k ∧ H5 D = some (.dK kvs) ∧ kvs.length < sizeLine ∧ Nx (upd H5 D (.dK (putK kvs k z))) else Nx H3) := by
  refine ⟨fun i m H => m = n - i ∧ i ≤ n ∧ Pv i H, ⟨n, by simp, Nat.zero_le _, h0⟩, ?_⟩
  rintro i m H ⟨rfl, hi, p⟩
  have q := hG i H hi p
  by_cases hlt : i < n
  · exact .inr ⟨w.goes i H hlt q, Pv (i + 1), fun H' p' => ⟨n - (i + 1), by omega, rfl, hlt, p'⟩, fun x H' y => hs i x H H' hlt p (w.yields i H x H' hlt q y)⟩
  · have e : i = n := by omega
    subst e
    exact .inl ⟨w.stops H q, hd H p⟩
end L2
namespace Sh
open PySem PySem.Spec PyProof.Rows L2
open C8 (pss_cut tCut)
open Evl (ixN_nat)
def bedF (r k w rk : Addr) : List (Str × V) := [("rows", .ref r), ("kinds", .ref k), ("widths", .ref w), ("ranks", .ref rk)]
def wL (rows : List Row) : List (Key × V) := rows.map fun q => (.inr q.1, .int q.2)
def rkL (ns : List Str) : List (Key × V) := ns.zipIdx.map fun q => (.inr q.1, .int ((q.2 : Nat) : Int))
def BedAt (C : Addr) (H : Hp) (p : Addr) (rows : List Row) : Prop := ∃ (dx r k w rk : Addr) (ts : List Addr), H p = some (.ins C dx (bedF r k w rk)) ∧ H r = some (.tup (ts.map V.ref)) ∧ TupsAt H ts rows ∧
  H k = some (.tup ((rows.map (·.1)).map V.str)) ∧ H w = some (.dK (wL rows)) ∧ H rk = some (.dK (rkL (rows.map (·.1))))
theorem BedAt.same {C : Addr} {H H' : Hp} {p : Addr} {rows : List Row} (x : BedAt C H p rows) (s : Same H H') : BedAt C H' p rows := by
  obtain ⟨dx, r, k, w, rk, ts, h1, h2, h3, h4, h5, h6⟩ := x
  exact ⟨dx, r, k, w, rk, ts, s _ _ h1, s _ _ h2, h3.keep (TK.of_same s), s _ _ h4, s _ _ h5, s _ _ h6⟩
theorem BedAt.kp {C a : Addr} {H H' : Hp} {p : Addr} {rows : List Row} (x : BedAt C H p rows) (b : BagAt H a) (s : Kp a H H') : BedAt C H' p rows := by
  obtain ⟨dx, r, k, w, rk, ts, h1, h2, h3, h4, h5, h6⟩ := x
  have tk := s.tk b
  obtain ⟨z0, z1, z2, z3, cs, hb, _⟩ := b
  exact ⟨dx, r, k, w, rk, ts, s _ _ h1 (ne_of h1 hb (fun e => nomatch e)), tk _ _ h2, h3.keep tk, tk _ _ h4, s _ _ h5 (ne_of h5 hb (fun e => nomatch e)), s _ _ h6 (ne_of h6 hb (fun e => nomatch e))⟩
/-- what the written part says of the class Bed -/
structure BedT (K : PySem.W.Frag) (C : Addr) : Prop where
  cl : Cls K C
  nR : NoAttr K C "rows"
  nK : NoAttr K C "kinds"
  nW : NoAttr K C "widths"
  nRk : NoAttr K C "ranks"
theorem s_ne : ¬ ("rows" : Str) = "kinds" ∧ ¬ ("rows" : Str) = "widths" ∧ ¬ ("rows" : Str) = "ranks" ∧ ¬ ("kinds" : Str) = "widths" ∧ ¬ ("kinds" : Str) = "ranks" ∧ ¬ ("widths" : Str) = "ranks" := by decide +kernel
theorem put1 (r k : Addr) : putF "kinds" (.ref k) [("rows", .ref r)] = [(("rows" : Str), V.ref r), ("kinds", .ref k)] := by simp [putF, s_ne]
theorem put2 (r k w : Addr) : putF "widths" (.ref w) [("rows", .ref r), ("kinds", .ref k)] = [(("rows" : Str), V.ref r), ("kinds", .ref k), ("widths", .ref w)] := by simp [putF, s_ne]
theorem put3 (r k w rk : Addr) : putF "ranks" (.ref rk) [("rows", .ref r), ("kinds", .ref k), ("widths", .ref w)] = bedF r k w rk := by simp [putF, s_ne, bedF]
theorem lk_k2 (r k w : Addr) : ([("rows", .ref r), ("kinds", .ref k), ("widths", .ref w)] : List (Str × V)).lookup ("kinds" : Str) = some (.ref k) := by
  have h : (("kinds" : Str) == "rows") = false := by decide +kernel
  simp [List.lookup, h]
theorem lk_rows (r k w rk : Addr) : (bedF r k w rk).lookup ("rows" : Str) = some (.ref r) := by simp [bedF, List.lookup]
theorem lk_kinds (r k w rk : Addr) : (bedF r k w rk).lookup ("kinds" : Str) = some (.ref k) := by
  have h : (("kinds" : Str) == "rows") = false := by decide +kernel
  simp [bedF, List.lookup, h]
theorem lk_widths (r k w rk : Addr) : (bedF r k w rk).lookup ("widths" : Str) = some (.ref w) := by
  have h : (("widths" : Str) == "rows") = false := by decide +kernel
  have h2 : (("widths" : Str) == "kinds") = false := by decide +kernel
  simp [bedF, List.lookup, h, h2]
theorem lk_ranks (r k w rk : Addr) : (bedF r k w rk).lookup ("ranks" : Str) = some (.ref rk) := by
  have h : (("ranks" : Str) == "rows") = false := by decide +kernel
  have h2 : (("ranks" : Str) == "kinds") = false := by decide +kernel
  have h3 : (("ranks" : Str) == "widths") = false := by decide +kernel
  simp [bedF, List.lookup, h, h2, h3]
theorem valV_none {kvs : List (Key × V)} {s : Str} (h : ∀ kv ∈ kvs, kv.1 ≠ .inr s) : valV kvs (.inr s) = none := by
  unfold valV
  rw [List.find?_eq_none.mpr (fun kv hk => by simpa using h kv hk)]
  rfl
/-- __init__ at a new instance -/
def spBedI (C : Addr) : Sp := fun vs H Q _ => ∃ (x dx p : Addr) (ts : List Addr) (rows : List Row), vs = [.ref x, .ref p] ∧ H x = some (.ins C dx []) ∧ H p = some (.tup (ts.map V.ref)) ∧ TupsAt H ts rows ∧ ROk 8 rows ∧ ∀ H', (∀ b o, H b = some o → b ≠ x → H' b = some o) → BedAt C H' x rows → Q .non H'
abbrev s_init__ : Stmt := inClass (top 34) 0
abbrev N_init__ : List Str := ["self", "kinds", "name", "_", "many", "rank"]
theorem sc_init__ : FnScope N_init__ ["self", "kinds"] (defScope s_init__) := ⟨rfl, rfl, rfl, by decide +kernel, rfl, by decide +kernel, by decide +kernel⟩
section
variable {P : Program} {w : World} {K : PySem.W.Frag} {mg : Str → Option Value} {base : Heap} {C : Addr}
theorem body_bedI (T : Bl mg) (B : BedT K C) (c_check_pairs : DefOk P w K mg base CX0 3 "check_pairs" spPairs) {f : Addr} {cdv : Value} {A : Around} {outer : List Env} {s : Shared} {H : Hp} {vs : List V} {Q : VK} {E : XK} (hr : Room 3 (A.deeper (envOfC "Bed.__init__" (defScope s_init__) s.heap.objs.size f cdv))) (h : spBedI C vs H Q E) :
    ∃ t, PSs (cxOf CX0 P w K mg base N_init__ "Bed.__init__" (defScope s_init__) f cdv A outer s H E).nox (defBody s_init__) t ∧ t { nx := fun _ H' => Q .non H', rt := Q } (start N_init__ vs) H := by
  obtain ⟨x, dx, p, ts, rows, rfl, hx, hp, hT, R, k⟩ := h
  refine ⟨_, (pss_cons (ps_expr (pe_d c_check_pairs (hr.mono (by decide)) pass0 (pa_cons (pv 1) pa_nil)))
    (pss_cons (ps_fld (pv 0) (pv 1) rfl)
    (pss_cons (ps_fld (pv 0) (pe_callTy call_tuple_of (by rfl) T.b_tuple (by decide +kernel) (pa_cons (pe_lc (own := [("name", 2), ("_", 3)]) (g := (gTup K 2 (gCons (gName 2) (gCons (gName 3) gNil)))) (tt := tYes) rfl sc_init__.nd (pi_tup (pv 1)) (blkOk_by (N := N_init__) (sc := defScope s_init__) (by decide +kernel)) (fun _ _ _ _ _ => (pg_tup (by rfl) (pgs_cons (pg_name (i := 2) sc_init__.nd rfl (Or.inl rfl)) (pgs_cons (pg_name (i := 3) sc_init__.nd rfl (Or.inl rfl)) pgs_nil)))) (fun _ _ _ _ _ => pts_nil) (fun _ _ _ _ _ => (pv 2))) pa_nil)) rfl)
    (pss_cons (ps_fld (pv 0) (pe_dc (own := [("name", 2), ("many", 4)]) (g := (gTup K 2 (gCons (gName 2) (gCons (gName 4) gNil)))) (tt := tYes) rfl sc_init__.nd (pi_tup (pv 1)) (blkOk_by (N := N_init__) (sc := defScope s_init__) (by decide +kernel)) (fun _ _ _ _ _ => (pg_tup (by rfl) (pgs_cons (pg_name (i := 2) sc_init__.nd rfl (Or.inl rfl)) (pgs_cons (pg_name (i := 4) sc_init__.nd rfl (Or.inl rfl)) pgs_nil)))) (fun _ _ _ _ _ => pts_nil) (fun _ _ _ _ _ => (pv 2)) (fun _ _ _ _ _ => (pv 4))) rfl)
    (pss_one (ps_fld (pv 0) (pe_dc (own := [("rank", 5), ("name", 2)]) (g := (gTup K 2 (gCons (gName 5) (gCons (gName 2) gNil)))) (tt := tYes) rfl sc_init__.nd (pi_enumT (by rfl) T.b_enumerate (pa_cons (pe_fld (pv 0) rfl) pa_nil)) (blkOk_by (N := N_init__) (sc := defScope s_init__) (by decide +kernel)) (fun _ _ _ _ _ => (pg_tup (by rfl) (pgs_cons (pg_name (i := 5) sc_init__.nd rfl (Or.inl rfl)) (pgs_cons (pg_name (i := 2) sc_init__.nd rfl (Or.inl rfl)) pgs_nil)))) (fun _ _ _ _ _ => pts_nil) (fun _ _ _ _ _ => (pv 2)) (fun _ _ _ _ _ => (pv 5))) rfl)))))), ?_⟩
  have hlen : ts.length = rows.length := hT.1
  have R8 : rows.length ≤ 8 := by have := R.len; omega
  have npx : p ≠ x := ne_of hp hx (fun e => nomatch e)
  refine ⟨_, rfl, p, ts, rows, rfl, hp, hT, R, fun H1 s1 => ?_⟩
  refine ⟨_, rfl, _, rfl, x, C, dx, _, rfl, s1 _ _ hx, B.cl, B.nR, (by show 0 < 1000; decide), ?_⟩
  generalize e2 : upd H1 x (.ins C dx (putF "rows" (.ref p) [])) = H2
  have hx2 : H2 x = some (.ins C dx [(("rows" : Str), V.ref p)]) := by rw [← e2, upd_same]; rfl
  have k2 : Kp x H H2 := by rw [← e2]; exact (Kp.same s1).upd
  have tk1 : ∀ {H H' : Hp} {fs : List (Str × V)}, H x = some (.ins C dx fs) → Kp x H H' → TK H H' := fun h q t xs ht => q t _ ht (ne_of ht h (fun e => nomatch e))
  have tk2 := tk1 hx k2
  have hp2 : H2 p = some (.tup (ts.map V.ref)) := tk2 _ _ hp
  have hT2 := hT.keep tk2
  clear e2
  -- kinds
  refine ⟨_, rfl, p, rfl, ⟨_, SqT.of hp2⟩, fun D hD => lc_it (walk_tup (xs := ts.map V.ref)) (fun i H' => Same H2 H' ∧ H' D = some (.lst (((rows.map (·.1)).take i).map V.str))) ⟨(Same.refl H2).upd_new hD, upd_same⟩ (fun i H' _ ⟨q, _⟩ => SqT.of (q _ _ hp2)) ?_ ?_⟩
  · rintro i v H3 H4 hi ⟨q1, q2⟩ ⟨rfl, hv⟩
    have hir : i < rows.length := by rw [List.length_map, hlen] at hi; exact hi
    obtain ⟨t, t1, t2, t3⟩ := hT2.at hir
    rw [t2] at hv
    cases hv
    refine ⟨t, _, rfl, SqT.of (q1 _ _ t3), rfl, _, _, rfl, _, _, rfl, rfl, rfl, ?_⟩
    refine ⟨_, rfl, _, q2, ?_, q1.upd_own hD, ?_⟩
    · rw [List.length_map, List.length_take]
      exact lt_line (by omega)
    · have hg : (rows.map (·.1))[i]? = some (rows[i]).1 := by rw [List.getElem?_map, List.getElem?_eq_getElem hir]; rfl
      rw [upd_same, ← take_snoc hg, List.map_append]
      rfl
  rintro H3 ⟨q1, q2⟩
  rw [show (ts.map V.ref).length = (rows.map (·.1)).length by rw [List.length_map, List.length_map, hlen], List.take_length] at q2
  refine ⟨D, _, rfl, .inl ⟨SqL.of q2, fun l hl => ?_⟩⟩
  have nlx : l ≠ x := (ne_of_none (q1 _ _ hx2) hl).symm
  refine ⟨_, rfl, x, C, dx, _, rfl, (by rw [upd_ne nlx.symm]; exact q1 _ _ hx2), B.cl, B.nK, (by show 1 < 1000; decide), ?_⟩
  rw [put1]
  have k3 : Kp x H (upd H3 l (.tup ((rows.map (·.1)).map V.str))) := (k2.trans (Kp.same q1)).upd_new hl
  generalize e4 : upd (upd H3 l (.tup ((rows.map (·.1)).map V.str))) x (.ins C dx [(("rows" : Str), V.ref p), ("kinds", .ref l)]) = H4
  have hx4 : H4 x = some (.ins C dx [(("rows" : Str), V.ref p), ("kinds", .ref l)]) := by rw [← e4, upd_same]
  have k4 : Kp x H H4 := by rw [← e4]; exact k3.upd
  have hl4 : H4 l = some (.tup ((rows.map (·.1)).map V.str)) := by rw [← e4, upd_ne nlx, upd_same]
  have tk4 := tk1 hx k4
  have hp4 : H4 p = some (.tup (ts.map V.ref)) := tk4 _ _ hp
  have hT4 := hT.keep tk4
  clear e4
  -- widths
  refine ⟨_, rfl, p, rfl, ⟨_, SqT.of hp4⟩, fun D2 hD2 => dc_it (walk_tup (xs := ts.map V.ref)) (fun i H' => Same H4 H' ∧ H' D2 = some (.dK (wL (rows.take i)))) ⟨(Same.refl H4).upd_new hD2, upd_same⟩ (fun i H' _ ⟨q, _⟩ => SqT.of (q _ _ hp4)) ?_ ?_⟩
  · rintro i v H5 H6 hi ⟨p1, p2⟩ ⟨rfl, hv⟩
    have hir : i < rows.length := by rw [List.length_map, hlen] at hi; exact hi
    obtain ⟨t, t1, t2, t3⟩ := hT4.at hir
    rw [t2] at hv
    cases hv
    refine ⟨t, _, rfl, SqT.of (p1 _ _ t3), rfl, _, _, rfl, _, _, rfl, rfl, rfl, ?_⟩
    refine ⟨_, rfl, _, rfl, _, .inr (rows[i]).1, rfl, p2, ?_, p1.upd_own hD2, ?_⟩
    · unfold wL
      rw [List.length_map, List.length_take]
      exact lt_line (by omega)
    · rw [upd_same, putK_new, ← take_snoc (List.getElem?_eq_getElem hir)]
      · unfold wL
        rw [List.map_append]
        rfl
      · refine valV_none fun kv hk e => ?_
        obtain ⟨q, hq, rfl⟩ := List.mem_map.mp hk
        have z2 := nd_take (l := rows.map (·.1)) R.nd (i := i) (by rw [List.length_map]; exact hir)
        rw [List.getElem_map, ← List.map_take] at z2
        have e2 : q.1 = (rows[i]).1 := Sum.inr.inj e
        exact z2 (by rw [← e2]; exact List.mem_map_of_mem hq)
  rintro H5 ⟨p1, p2⟩
  rw [show (ts.map V.ref).length = rows.length by rw [List.length_map, hlen], List.take_length] at p2
  have nDx2 : D2 ≠ x := (ne_of_none hx4 hD2).symm
  refine ⟨_, rfl, x, C, dx, _, rfl, p1 _ _ hx4, B.cl, B.nW, (by show 2 < 1000; decide), ?_⟩
  rw [put2]
  generalize e6 : upd H5 x (.ins C dx [(("rows" : Str), V.ref p), ("kinds", .ref l), ("widths", .ref D2)]) = H6
  have hx6 : H6 x = some (.ins C dx [(("rows" : Str), V.ref p), ("kinds", .ref l), ("widths", .ref D2)]) := by rw [← e6, upd_same]
  have k46 : Kp x H4 H6 := by rw [← e6]; exact (Kp.same p1).upd
  have k6 : Kp x H H6 := k4.trans k46
  have hl6 : H6 l = some (.tup ((rows.map (·.1)).map V.str)) := k46 _ _ hl4 nlx
  have hw6 : H6 D2 = some (.dK (wL rows)) := by rw [← e6, upd_ne nDx2]; exact p2
  clear e6
  -- ranks
  refine ⟨_, rfl, x, C, dx, _, _, rfl, hx6, B.cl, B.nK, lk_k2 _ _ _, l, _, rfl, SqT.of hl6, fun D3 hD3 => dc_it (walk_enumT (xs := (rows.map (·.1)).map V.str)) (fun i H' => Same H6 H' ∧ H' D3 = some (.dK ((rkL (rows.map (·.1))).take i))) ⟨(Same.refl H6).upd_new hD3, upd_same⟩ (fun i H' _ ⟨q, _⟩ => SqT.of (q _ _ hl6)) ?_ ?_⟩
  · rintro i v H7 H8 hi ⟨p3, p4⟩ ⟨P1, v1, v2, rfl, hP1, rfl, e1, e2⟩
    have hir : i < rows.length := by rw [List.length_map, List.length_map] at hi; exact hi
    cases e1
    have e2' : ((rows.map (·.1)).map V.str)[i]? = some v2 := e2
    rw [List.getElem?_map, List.getElem?_map, List.getElem?_eq_getElem hir] at e2'
    cases e2'
    have hD3' : (upd H7 P1 (.tup [.int ((i : Nat) : Int), .str (rows[i]).1])) D3 = some (.dK ((rkL (rows.map (·.1))).take i)) := by rw [upd_ne (ne_of_none p4 hP1)]; exact p4
    refine ⟨P1, _, rfl, SqT.of upd_same, rfl, _, _, rfl, _, _, rfl, rfl, rfl, ?_⟩
    refine ⟨_, rfl, _, rfl, _, .inr (rows[i]).1, rfl, hD3', ?_, (p3.upd_new hP1).upd_own hD3, ?_⟩
    · rw [List.length_take]
      unfold rkL
      rw [List.length_map, List.length_zipIdx, List.length_map]
      exact lt_line (by omega)
    · have hg : (rkL (rows.map (·.1)))[i]? = some (.inr (rows[i]).1, .int ((i : Nat) : Int)) := by
        unfold rkL
        rw [List.getElem?_map, List.getElem?_zipIdx, List.getElem?_map, List.getElem?_eq_getElem hir]
        simp
      rw [upd_same, putK_new, ← take_snoc hg]
      refine valV_none fun kv hk e => ?_
      obtain ⟨j, hj, ej⟩ := List.mem_iff_getElem.mp hk
      rw [List.length_take] at hj
      rw [List.getElem_take] at ej
      have hjr : j < rows.length := by omega
      have hg2 : (rkL (rows.map (·.1)))[j]? = some (.inr (rows[j]).1, .int ((j : Nat) : Int)) := by
        unfold rkL
        rw [List.getElem?_map, List.getElem?_zipIdx, List.getElem?_map, List.getElem?_eq_getElem hjr]
        simp
      have ej2 := List.getElem?_eq_getElem (l := rkL (rows.map (·.1))) (i := j) (by unfold rkL; rw [List.length_map, List.length_zipIdx, List.length_map]; exact hjr)
      rw [hg2] at ej2
      rw [← ej, ← Option.some.inj ej2] at e
      have e3 : (rows[j]).1 = (rows[i]).1 := Sum.inr.inj e
      have nd := R.nd
      have e4 : (rows.map (·.1))[j]'(by rw [List.length_map]; exact hjr) = (rows.map (·.1))[i]'(by rw [List.length_map]; exact hir) := by rw [List.getElem_map, List.getElem_map]; exact e3
      have := (List.getElem_inj nd).mp e4
      omega
  rintro H7 ⟨p3, p4⟩
  rw [show ((rows.map (·.1)).map V.str).length = (rkL (rows.map (·.1))).length by unfold rkL; simp, List.take_length] at p4
  have nDx3 : D3 ≠ x := (ne_of_none hx6 hD3).symm
  refine ⟨_, rfl, x, C, dx, _, rfl, p3 _ _ hx6, B.cl, B.nRk, (by show 3 < 1000; decide), ?_⟩
  rw [put3]
  have k8 : Kp x H (upd H7 x (.ins C dx (bedF p l D2 D3))) := (k6.trans (Kp.same p3)).upd
  refine k _ k8 ⟨dx, p, l, D2, D3, ts, upd_same, k8 _ _ hp npx, hT.keep (tk1 hx k8), ?_, ?_, ?_⟩
  · rw [upd_ne nlx]; exact p3 _ _ hl6
  · rw [upd_ne nDx2]; exact p3 _ _ hw6
  · rw [upd_ne nDx3]; exact p4
end
end Sh
end
section
set_option Elab.async false
set_option linter.all false
set_option maxRecDepth 100000
set_option maxHeartbeats 2000000
set_option autoImplicit false
namespace Sh
open PySem PySem.Spec PyProof.Rows L2
open C8 (pss_cut tCut)
open Evl (ixN_nat)
theorem ifn {c A B : Prop} [Decidable c] (h : ¬ c) (b : B) : if c then A else B := by
  rw [if_neg h]
  exact b
theorem ifp {c A B : Prop} [Decidable c] (h : c) (a : A) : if c then A else B := by
  rw [if_pos h]
  exact a
def spBedS (C : Addr) : Sp := fun vs H Q E => ∃ ws rest, vs = ws ++ rest ∧ ws.length = (["self"] : List Str).length ∧ rest.length ≤ sizeLine ∧ ∀ p, H p = Option.none → spBedI C (ws ++ [V.ref p]) (upd H p (.tup rest)) Q E
def BedOk (P : Program) (w : World) (K : PySem.W.Frag) (mg : Str → Option Value) (base : Heap) (C : Addr) (k : Nat) : Prop := mg "Bed" = some (.ref C) ∧ ∃ fI, Mk K C fI ∧ FnR P w K mg base CX0 k fI (spBedS C)
def spBed (C : Addr) : Sp := fun vs H Q _ => ∃ (ts : List Addr) (rows : List Row), vs = ts.map V.ref ∧ TupsAt H ts rows ∧ ROk 8 rows ∧ ∀ H' p, Same H H' → H p = none → BedAt C H' p rows → Q (.ref p) H'
theorem pe_bed {X : Cx} {C : Addr} {k : Nat} {e : Expr} {es : List Expr} {t : TA} {p pos : Pos} (D : BedOk X.prog X.w X.K X.mg X.base C k) (hr : Room (k + 1) X.A) (ha : PA X (e :: es) t) (hg : Gl X "Bed" := by rfl)
    (he : starEach (e :: es) X.env = (false, eval e X.env) :: starEach es X.env := by rfl) (hpl : (backTo pos (starEach es X.env)).any (·.1) = false := by rfl) :
    PE X (.Call (.Name "Bed" p) (e :: es) [] pos) (tCallR (spBed C) E0 t) := by
  obtain ⟨hm, fI, M, F⟩ := D
  refine ⟨fun pins s σ H Q I h => ?_⟩
  refine wpAny_Call_Name_kw (ld_glob I hg hm ?_ (by decide))
  refine PySem.W.callWith_K (h₀ := X.base) I.ok.mod.kin M.kp (thn (ha.run pos pins s σ H _ I h) fun us s1 ⟨vs, H1, I1, r, q⟩ => ⟨I1.kIn, ?_⟩) he hpl
  obtain ⟨ts, rows, rfl, hT, R, k⟩ := q
  refine StX.run_makeR M F hr pass0 I1 r fun x dx hx hd hxd => ?_
  have s1 : Same H1 (upd (upd H1 dx (.own x)) x (.ins C dx [])) := ((Same.refl H1).upd_new hd).upd_own hx
  refine ⟨[.ref x], ts.map V.ref, rfl, rfl, ?_, fun p hp => ?_⟩
  · rw [List.length_map, hT.1]
    have := R.len
    exact le_line (by omega)
  have s2 := s1.upd_new (o := .tup (ts.map V.ref)) hp
  have nxp : x ≠ p := ne_of_none (upd_same (H := upd H1 dx (.own x)) (a := x)) hp
  refine ⟨x, dx, p, ts, rows, rfl, by rw [upd_ne nxp, upd_same], upd_same, hT.keep (TK.of_same s2), R, fun H' kk b => ⟨rfl, ?_⟩⟩
  exact k H' x (fun b o hb => kk b o (s2 b o hb) (ne_of_none hb hx)) hx b
def spLawBed (C : Addr) : Sp := fun vs H Q _ => ∃ (r : Addr) (rows : List Row), vs = [.ref r] ∧ RowsAt H r rows ∧ ROk 8 rows ∧ ∀ H' p, Same H H' → H p = none → BedAt C H' p rows → Q (.ref p) H'
section
variable {P : Program} {w : World} {K : PySem.W.Frag} {mg : Str → Option Value} {base : Heap} {C : Addr}
end
end Sh
end
section
set_option Elab.async false
set_option linter.all false
set_option maxRecDepth 100000
set_option maxHeartbeats 4000000
set_option autoImplicit false
/-! More rules over tuples, lists and caught exceptions. -/
namespace L2
open PySem PySem.Spec PyProof.Rows
section
variable {X : Cx}
/-- t + u, followed with its object -/
def rCatG (K : PySem.W.Frag) : R2 := fun x y H Q => ∃ a b xs ys, x = .ref a ∧ y = .ref b ∧ SqT K H a xs ∧ SqT K H b ys ∧ xs.length + ys.length ≤ sizeLine ∧
  (xs = [] → Q (.ref b) H) ∧ (xs ≠ [] → ys = [] → Q (.ref a) H) ∧ (xs ≠ [] → ys ≠ [] → ∀ p o, H p = none → o.dict = none → Q (.ref p) (upd H p (.frz o (.tup (xs ++ ys)))))
theorem op_catG : OpR X (binaryOp .Add) (rCatG X.K) := by
  intro pins s σ H x y v u Q I rx ry h
  obtain ⟨a, b, xs, ys, rfl, rfl, ha, hb, hz, q0, q1, q2⟩ := h
  by_cases hy : ys = []
  · exact op_catA pins s σ H _ _ v u Q I rx ry ⟨a, b, xs, ys, rfl, rfl, ha, hb, hz, q0, q1, fun _ h => absurd hy h⟩
  · exact op_catF pins s σ H _ _ v u Q I rx ry ⟨a, b, xs, ys, rfl, rfl, ha, hb, hy, hz, q0, fun h => q2 h hy⟩
/-- t[i:j], followed with its object -/
def rSlG (K : PySem.W.Frag) : V → Option Int → Option Int → Hp → VK → Prop := fun x lo hi H Q => ∃ a xs, x = .ref a ∧ SqT K H a xs ∧
  (HT.sIx xs.length 0 lo = 0 ∧ HT.sIx xs.length xs.length hi = xs.length → Q (.ref a) H) ∧ (¬ (HT.sIx xs.length 0 lo = 0 ∧ HT.sIx xs.length xs.length hi = xs.length) → ∀ p o, H p = none → o.dict = none → Q (.ref p) (upd H p (.frz o (.tup (cutV xs lo hi)))))
theorem sl_tupG : SlR X (rSlG X.K) := by
  intro pins s σ H x v vl vu lo hi sl Q I rx hs pl pu h
  obtain ⟨a, xs, rfl, hx, q1, q2⟩ := h
  cases rx
  obtain ⟨its, r, ht, hz⟩ := I.tuple hx
  have hlen : its.toArray.size = xs.length := by rw [List.size_toArray]; exact r.length.symm
  refine ⟨"tuple", _, PyProof.Rows.slot_tuple_getitem.lookup, ht.typeIs, ?_⟩
  by_cases hw : HT.sIx xs.length 0 lo = 0 ∧ HT.sIx xs.length xs.length hi = xs.length
  · exact getItem_tuple_whole ht hs pl pu (by rw [hlen]; exact hw) ⟨.ref a, H, I, rfl, q1 hw⟩
  · refine HT.getItem_tuple_cut ht hs pl pu (by rw [hlen]; exact hw) ?_ (by rw [hlen]; exact hz)
    rw [hlen]
    refine ⟨.ref s.heap.objs.size, _, I.laid (t' := s.toks) (o := .frz { cls := .type "tuple", data := .seq (List.take (HT.sIx xs.length xs.length hi - HT.sIx xs.length 0 lo) (List.drop (HT.sIx xs.length 0 lo) its.toArray.toList)).toArray } (.tup (cutV xs lo hi))) (fun b ob q => Heap.get?_push_of_some _ q) (Nat.le_refl _) ?_, rfl, q2 hw _ _ (I.hok.fresh (Nat.le_refl _)) ?_⟩
    · exact ⟨Heap.get?_push_size _ rfl, Nat.le_trans (cutV_length xs lo hi) hz, _, (r.drop (HT.sIx xs.length 0 lo)).take (HT.sIx xs.length xs.length hi - HT.sIx xs.length 0 lo), IsTup.new _ _⟩
    · rfl
/-- t * k, k not 1, followed with its object -/
def rRepF (K : PySem.W.Frag) : R2 := fun x y H Q => ∃ l k xs, x = .ref l ∧ y = .int k ∧ SqT K H l xs ∧ xs ≠ [] ∧ 0 ≤ k ∧ k ≠ 1 ∧ k ≤ 4000 ∧ xs.length ≤ 100 ∧ ∀ p o, H p = none → o.dict = none → Q (.ref p) (upd H p (.frz o (.tup (List.replicate k.toNat xs).flatten)))
theorem op_repF : OpR X (binaryOp .Mult) (rRepF X.K) := by
  intro pins s σ H x y v u Q I rx ry h
  obtain ⟨l, k, xs, rfl, rfl, hT, hne, h1, e1, h2, hz, qn⟩ := h
  cases rx
  obtain ⟨t, rfl⟩ := ry
  obtain ⟨its, r, ⟨⟨cls, dd, data, sl⟩, ho, hc, n, hd⟩, hs⟩ := I.tuple hT
  simp only at hc hd
  subst hc hd
  have hle : its.length = xs.length := r.length.symm
  have hn : its ≠ [] := fun e => hne (by
    rw [e] at hle
    exact List.eq_nil_of_length_eq_zero hle.symm)
  have hi : its.toArray.isEmpty = false := by
    cases its with
    | nil => exact absurd rfl hn
    | cons a b => rfl
  have hsz0 : its.toArray.size = xs.length := by rw [List.size_toArray, hle]
  have c0 : (decide (k < -(2 ^ 63)) || decide (k ≥ 2 ^ 63)) = false := by
    rw [decide_eq_false (by omega), decide_eq_false (by omega)] <;> rfl
  have c1 : (its.toArray.isEmpty || k == 1) = false := by
    rw [hi, Bool.false_or]
    exact beq_eq_false_iff_ne.mpr e1
  by_cases e0 : k = 0
  · subst e0
    refine wpAny_binaryOp_repeat_ref (T := "tuple") (U := "int") (by decide) ⟨_, ho, rfl⟩ (fun s' => typeIs_int s' 0 t) noFill_tuple_mul F.fills_int_mul F.slot_int_rmul repeat_tuple F.slot_int_index.lookup
      (call_meets F.slot_int_rmul (typeIs_int s 0 t) F.entry_int_rmul (F.args_int_rmul_2 _ _) (int_rmul_tuple 0 t l its.toArray n dd sl)
        ⟨ho, rfl, ⟨_, ho, rfl⟩, call_meets F.slot_tuple_mul ⟨_, ho, rfl⟩ F.entry_tuple_mul (F.args_tuple_mul_2 _ _) (tuple_mul0 l its.toArray n dd sl 0 t c0 c1 rfl) ⟨ho, ?_⟩⟩)
    refine ⟨.ref s.heap.objs.size, _, I.laid (t' := s.toks) (o := .frz { cls := .type "tuple", data := .seq #[] } (.tup (List.replicate (0 : Int).toNat xs).flatten)) (fun b ob q => Heap.get?_push_of_some _ q) (Nat.le_refl _) ?_, rfl, qn _ _ (I.hok.fresh (Nat.le_refl _)) ?_⟩
    · exact ⟨Heap.get?_push_size _ rfl, by rw [sizeLine_eq]; exact Nat.zero_le _, [], .nil, IsTup.new _ _⟩
    · rfl
  · have hm : ((its.toArray.size : Nat) : Int) * k ≤ 400000 := by
      rw [hsz0]
      have a1 : ((xs.length : Nat) : Int) * k ≤ 100 * k := Int.mul_le_mul_of_nonneg_right (by omega) (by omega)
      omega
    have flen : (List.replicate k.toNat its).flatten.length ≤ sizeLine := by
      rw [PyProof.Rows.lm_len_rep_flat, hle, sizeLine_eq]
      have a1 : k.toNat * xs.length ≤ 4000 * 100 := Nat.mul_le_mul (by omega) hz
      omega
    have c2 : (decide (k ≤ 0) || its.toArray.isEmpty) = false := by
      rw [hi, Bool.or_false]
      exact decide_eq_false (by omega)
    have c4 : Builtin.Tuple.tupleTooMany (((its.toArray.size : Nat) : Int) * k) = false := by
      unfold Builtin.Tuple.tupleTooMany
      rw [sizeLine_eq]
      exact decide_eq_false (by omega)
    refine wpAny_binaryOp_repeat_ref (T := "tuple") (U := "int") (by decide) ⟨_, ho, rfl⟩ (fun s' => typeIs_int s' k t) noFill_tuple_mul F.fills_int_mul F.slot_int_rmul repeat_tuple F.slot_int_index.lookup
      (call_meets F.slot_int_rmul (typeIs_int s k t) F.entry_int_rmul (F.args_int_rmul_2 _ _) (int_rmul_tuple k t l its.toArray n dd sl)
        ⟨ho, rfl, ⟨_, ho, rfl⟩, call_meets F.slot_tuple_mul ⟨_, ho, rfl⟩ F.entry_tuple_mul (F.args_tuple_mul_2 _ _) (tuple_mulW l its.toArray n dd sl k t c0 c1 c2 (by omega) c4 (by rw [size_rep, List.size_toArray]; exact flen)) ⟨ho, ?_⟩⟩)
    rw [size_rep]
    refine ⟨.ref s.heap.objs.size, _, I.laid (t' := s.toks) (o := .frz { cls := .type "tuple", data := .seq (List.replicate k.toNat its).flatten.toArray } (.tup (List.replicate k.toNat xs).flatten)) (fun b ob q => Heap.get?_push_of_some _ q) (Nat.le_refl _) ?_, rfl, qn _ _ (I.hok.fresh (Nat.le_refl _)) ?_⟩
    · exact ⟨Heap.get?_push_size _ rfl, by rw [PyProof.Rows.lm_len_rep_flat, sizeLine_eq]; have a1 : k.toNat * xs.length ≤ 4000 * 100 := Nat.mul_le_mul (by omega) hz; omega, _, r.rep k.toNat, IsTup.new _ _⟩
    · rfl
/-- t * k, followed with its object -/
def rRepX (K : PySem.W.Frag) : R2 := fun x y H Q => ∃ l k xs, x = .ref l ∧ y = .int k ∧ SqT K H l xs ∧ xs ≠ [] ∧ 0 ≤ k ∧ k ≤ 4000 ∧ xs.length ≤ 100 ∧ (k = 1 → Q (.ref l) H) ∧ (k ≠ 1 → ∀ p o, H p = none → o.dict = none → Q (.ref p) (upd H p (.frz o (.tup (List.replicate k.toNat xs).flatten))))
theorem op_repX : OpR X (binaryOp .Mult) (rRepX X.K) := by
  intro pins s σ H x y v u Q I rx ry h
  obtain ⟨l, k, xs, rfl, rfl, hT, hne, h0, h1, h2, q1, q2⟩ := h
  by_cases e : k = 1
  · exact op_repG pins s σ H _ _ v u Q I rx ry ⟨l, k, xs, rfl, rfl, hT, hne, h0, h1, h2, q1, fun n => absurd e n⟩
  · exact op_repF pins s σ H _ _ v u Q I rx ry ⟨l, k, xs, rfl, rfl, hT, hne, h0, e, h1, h2, q2 e⟩
/-- l.extend(t), t a tuple -/
theorem list_extend_tupD (l : Addr) (items : Array Value) (n : Nat) (b : Addr) (items2 : Array Value) (n2 : Nat) (dd : Option Addr) (sl : Array (Option Value)) (hs0 : ¬(!items.isEmpty && Builtin.List.listTooLong (items.size + items2.size)) = true) (hs1 : items.size ≤ sizeLine) (hs2 : items.size + items2.size ≤ sizeLine + 1) :
    Meets (Builtin.«list.extend» ⟨[.ref l, .ref b], []⟩) (fun _ R s => s.heap.get? l = some { cls := .type "list", dict := none, data := .seq items n, slots := #[] } ∧ s.heap.get? b = some { cls := .type "tuple", dict := dd, data := .seq items2 n2, slots := sl } ∧ R (.ok (.ret Value.none)) { s with heap := s.heap.update l (Obj.mapSeq fun x => x ++ items2), toks := s.toks }) :=
  .of_wp fun prog w A R s h => by
    obtain ⟨hp, g, d, tk, os⟩ := s; obtain ⟨hl, hb, h⟩ := h; have f1 := AutoSeq1.idx_int; have f2 := AutoSeq1.sub_tuple_tuple; have f3 := AutoSeq1.sub_list_list; have f4 := AutoSeq1.sub_tuple_list; have f5 := AutoSeq1.sub_list_tuple;
    have hz' : (items ++ items2).size ≤ sizeLine + 1 := by rw [Array.size_append]; exact hs2
    wp_walk using (wpAny_updateSeq hl rfl (hz := hs1) (_hz' := hz')), wpAny_loadPart' hl, wpAny_loadPart' hb; exact ⟨_, rfl, h⟩
def rExtendT (K : PySem.W.Frag) : V → List V → Hp → VK → Prop := fun x vs H Q => ∃ l b xs zs, x = .ref l ∧ vs = [.ref b] ∧ H l = some (.lst xs) ∧ SqT K H b zs ∧ xs.length + zs.length ≤ sizeLine ∧ Q .non (upd H l (.lst (xs ++ zs)))
theorem mt_extendT : MtM X "list.extend" (rExtendT X.K) := by
  intro pins s σ H x vs v us Q I rx rv h
  obtain ⟨l, b, xs, zs, rfl, rfl, hH, hB, hz, q⟩ := h
  cases rx
  obtain ⟨u, rfl, ru⟩ := rv.one
  cases ru
  obtain ⟨z, its, n, r, hl, e⟩ := I.lstM hH
  obtain ⟨its2, r2, ⟨⟨cls, dd, data, sl⟩, e2, hc, n2, hd⟩, hl2⟩ := I.tuple hB
  simp only at hc hd
  subst hc hd
  have h2 := r2.length
  have h1 := r.length
  have hsz : its.toArray.size + its2.toArray.size ≤ sizeLine := by rw [List.size_toArray, List.size_toArray]; omega
  have hlong : ¬ (!its.toArray.isEmpty && Builtin.List.listTooLong (its.toArray.size + its2.toArray.size)) = true := by
    rw [notLongL hsz, Bool.and_false]
    exact Bool.false_ne_true
  refine call_meets F.slot_list_extend ⟨_, e, rfl⟩ F.entry_list_extend (F.args_list_extend_2 _ _)
    (list_extend_tupD l its.toArray n b its2.toArray n2 dd sl hlong (by rw [List.size_toArray]; omega) (by omega)) ⟨e, e2, ?_⟩
  refine ⟨.non, _, I.lset (its' := its ++ its2) hH e (by simp) (r.append r2) ?_, rfl, q⟩
  rw [List.length_append]
  omega
/-- l.count(True), l a list of bools -/
def eqbt (v : Value) : Bool := match v with
  | .bool b => b
  | _ => false
theorem eqbt_count : ∀ {ys : List Bool} {us : List Value}, Vals (ys.map V.bl) us → us.countP eqbt = ys.count true
  | [], _, .nil => rfl
  | y :: ys, _, .cons r rt => by
    cases r
    have ih := eqbt_count rt
    rw [List.countP_cons, List.count_cons, ih]
    cases y <;> rfl
theorem eqbt_at {A : Around} {s : Shared} : ∀ {ys : List Bool} {us : List Value}, Vals (ys.map V.bl) us → ∀ y ∈ us, SeqAt.EqAt A s y (.bool true) (eqbt y)
  | [], _, .nil, _, h => nomatch h
  | y :: ys, _, .cons r rt, u, h => by
    rcases List.mem_cons.mp h with e | e
    · subst e
      cases r
      have z := SeqAt.EqAt.bool_bool (A := A) (s := s) y true
      cases y <;> exact z
    · exact eqbt_at rt u e
def rCntB (K : PySem.W.Frag) : V → List V → Hp → VK → Prop := fun x xs H Q => ∃ (p : Addr) (ys : List Bool), x = .ref p ∧ xs = [.bl true] ∧ SqL K H p (ys.map V.bl) ∧ Q (.int (ys.count true : Nat)) H
theorem mt_bcount : MtR X "list.count" (rCntB X.K) := by
  intro pins s σ H x xs v us Q I rx rxs h
  obtain ⟨p, ys, rfl, rfl, hs, q⟩ := h
  cases rx
  obtain ⟨u, rfl, ru⟩ := rxs.one
  cases ru
  obtain ⟨its, rv, ⟨⟨cls, dd, data, sl⟩, n, ho, hc, hdn, hd⟩, hlen⟩ := I.list hs
  simp only at hc hd
  subst hc hd
  refine call_meets PySem.F.slot_list_count ⟨_, ho, rfl⟩ PySem.F.entry_list_count (PySem.F.args_list_count_2 _ _)
    (SeqAt.list_countAt p its.toArray n dd sl (.bool true) eqbt) ⟨ho, fun y hy => eqbt_at rv y (by simpa using hy), ?_⟩
  have ec : its.toArray.toList.countP eqbt = ys.count true := eqbt_count rv
  refine ⟨.int (ys.count true : Nat), H, I.tok _, ⟨s.toks, ?_⟩, q⟩
  show Value.int ((its.toArray.toList.countP eqbt : Nat) : Int) s.toks = Value.int ((ys.count true : Nat) : Int) s.toks
  rw [ec]
/-- l[i], by values -/
theorem get_list : PGet X (rIxL X.K) := by
  intro pins s σ H x y v u Q I rx ry h
  obtain ⟨p, xs, i, z, rfl, rfl, hq, he, q⟩ := h
  cases rx
  obtain ⟨t, rfl⟩ := ry
  obtain ⟨its, r, pl, hz⟩ := I.list hq
  obtain ⟨j, h1, h2, h3, h4, h5⟩ := atI_get he
  obtain ⟨w, ew, rw'⟩ := r.get h2
  have hl := r.length
  have hn := line63
  have fin : EP X pins σ Q w s := ⟨z, H, I, rw', q⟩
  by_cases h0 : 0 ≤ i
  · have hj : i.toNat = j := by
      rw [seqIndex_of h0 h5] at h1
      exact Option.some.inj h1
    exact wpAny_getItem_list pl.isList h0 (by omega) (by rw [hj]; simpa using ew) fin
  · have hj : (i + (its.toArray.size : Int)).toNat = j := by
      rw [seqIndex_neg (by omega) h4] at h1
      rw [List.size_toArray, ← hl]
      exact Option.some.inj h1
    exact wpAny_getItem_list_neg pl.isList (by omega) (by rw [List.size_toArray] <;> omega) (by omega) (by rw [hj]; simpa using ew) fin
/-- isinstance(e, c), e the exception that the suite holds, whatever it has in its dict -/
structure ExcD (K : PySem.W.Frag) (D : Addr) : Prop where
  c : ExcC K D
  cl : (PySem.W.clsIn K D).isSome = true
def rIsD (K : PySem.W.Frag) (a : Addr) (cls : Value) (d : Option Addr) : List V → Hp → VK → Prop := fun xs H Q => ∃ (D dd : Addr) (fs : List (Str × V)) (c : V) (cv : Value) (b : Bool), xs = [.ref a, c] ∧ cls = .ref D ∧ d = some dd ∧ H dd = some (.xd fs) ∧ ExcD K D ∧ (∀ u, RelV c u → u = cv) ∧ PySem.W.kitOne K (.ref D) cv = some b ∧ Q (.bl b) H
theorem call_isD {a : Addr} {oe : Obj} {cls : Value} {d : Option Addr} {pn : List (Addr × Obj)} (hz : Zc cls d oe) (hf : ∃ vs, oe.data = .fields vs) : CallR (X.suite a ((a, oe) :: pn)) (.builtin "isinstance") (rIsD X.K a cls d) := by
  intro pins s σ H xs us Q I r h
  obtain ⟨D, dd, fs, c, cv, b, rfl, ec, ed, ea, C, hcv, e, q⟩ := h
  subst ec ed
  cases r with
  | cons rx rr =>
    cases rr with
    | cons rt rr =>
      cases rr
      cases rx
      have ec := hcv _ rt
      subst ec
      obtain ⟨hget, _⟩ := I.pin (a, oe) (List.mem_append.mpr (.inl List.mem_cons_self))
      obtain ⟨vs, hv⟩ := hf
      obtain ⟨mA, hns, hr⟩ : ObjOk X.prog X.w H s.heap dd (.xd fs) := I.hok dd _ ea
      obtain ⟨od, ho, hl⟩ := lookIn_ns hns
      have J : PySem.W.InstAt s.heap a oe D (some od) := ⟨hget, hz.1, by unfold PySem.W.notCls; rw [hv] <;> rfl, by rw [hz.2]; exact ho⟩
      exact PySem.W.kia_one (PySem.W.kitx_exc C.cl C.c.hg C.c.hk C.c.hs C.c.ha C.c.hn C.c.ht C.c.hm) I.kIn J e (fun z => nomatch z) fun tk => ⟨.bl b, H, I.kept (t' := tk) fun _ _ z => z, rfl, q⟩
end
end L2
end
section
set_option Elab.async false
set_option linter.all false
set_option maxRecDepth 100000
set_option maxHeartbeats 2000000
set_option autoImplicit false
/-! The hook of HookX that also tells which own exception class is which, and what isinstance asks of them. -/
namespace Hx
open PySem PySem.Spec PyProof.Rows L2 He PySem.W
def exB (K : Frag) (C : Addr) : Bool := xfB K C && (eqO (findIn K (.ref C) "__class__") (some (some (.builtin "object.__class__"))) && (eqO (specialIn K (.builtin "object.__class__") "__get__") (some (some (.builtin "getset_descriptor.__get__"))) && (decide (takesIn K (.builtin "object.__class__") = some true) && (decide (mroIn K C (.type "object") = some true) && (clsIn K C).isSome))))
theorem exB_ok {K : Frag} {C : Addr} (h : exB K C = true) : ExcD K C := by
  unfold exB at h
  obtain ⟨h1, h⟩ := ba h
  obtain ⟨h2, h⟩ := ba h
  obtain ⟨h3, h⟩ := ba h
  obtain ⟨h4, h⟩ := ba h
  obtain ⟨h5, h6⟩ := ba h
  have f := xfB_ok h1
  exact ⟨⟨f.ga, f.gg, f.exC, f.hdC, eqO_ok h2, eqO_ok h3, of_decide_eq_true h4, of_decide_eq_true h5⟩, h6⟩
def yB (K : Frag) (base : Str) (ns : List Str) (x : Str) : Bool := exB K (ga K x) && (decide (kitOne K (.ref (ga K x)) (.type "ValueError") = some true) && (decide (exmOne K (.ref (ga K x)) (.ref (ga K base)) = some true) && ns.all fun y => decide (kitOne K (.ref (ga K x)) (.ref (ga K y)) = some (decide (x = y)))))
structure YFacts (K : Frag) (base : Str) (ns : List Str) (x : Str) : Prop where
  ex : ExcD K (ga K x)
  kv : kitOne K (.ref (ga K x)) (.type "ValueError") = some true
  me : exmOne K (.ref (ga K x)) (.ref (ga K base)) = some true
  ki : ∀ y ∈ ns, kitOne K (.ref (ga K x)) (.ref (ga K y)) = some (decide (x = y))
theorem yB_ok {K : Frag} {base : Str} {ns : List Str} {x : Str} (h : yB K base ns x = true) : YFacts K base ns x := by
  unfold yB at h
  obtain ⟨h1, h⟩ := ba h
  obtain ⟨h2, h⟩ := ba h
  obtain ⟨h3, h4⟩ := ba h
  exact ⟨exB_ok h1, of_decide_eq_true h2, of_decide_eq_true h3, fun y hy => of_decide_eq_true (List.all_eq_true.mp h4 y hy)⟩
/-- what can be reached in n steps, twice told where it is reached twice -/
def bfs (g : Addr → Option Obj) : Nat → List Addr → List Addr
  | 0, l => l
  | n + 1, l => l ++ bfs g n (l.flatMap fun a => match g a with
    | some o => refsD o
    | none => [])
def frY (n : Nat) (g : Addr → Option Obj) : Frag := frG g (bfs g n [mainGlobals] ++ [cStatics])
abbrev AlY : Type := (AlD × (Bool × List XV)) × Bool
def obsY (file : Str) (n : Nat) (fa : List Fa) (fn : List DefD) (xs : List XDef) (base : Str) (ns : List Str) (g : Addr → Option Obj) : AlY :=
  ((obsD fa fn (frY n g), (xs.all fun d => d.ok file (frY n g), xs.map fun d => xvOf (frY n g) d.x)), ns.all fun x => yB (frY n g) base ns x)
def hookY (file : Str) (n : Nat) (fa : List Fa) (fn : List DefD) (xs : List XDef) (base : Str) (ns : List Str) : PySem.W.Hook where
  α := AlY
  obs := fun s => obsY file n fa fn xs base ns s.heap.get?
  val := fun _ => ((valD fn, (true, xs.map XDef.val)), true)
  says := fun _ h => ∃ K : Frag, K.In h ∧ SaysD fa fn K ∧ (xs.all fun d => d.ok file K) = true ∧ (xs.map fun d => xvOf K d.x) = xs.map XDef.val ∧ (ns.all fun x => yB K base ns x) = true
  of := fun _ _ e => ⟨_, frG_in, congrArg (fun z : AlY => z.1.1) e, congrArg (fun z : AlY => z.1.2.1) e, congrArg (fun z : AlY => z.1.2.2) e, congrArg (fun z : AlY => z.2) e⟩
  keeps := fun _ _ _ ⟨K, hK, c⟩ k => ⟨K, PySem.W.Frag.In.keeps hK k, c⟩
theorem obsY_eq {file : Str} {n : Nat} {fa : List Fa} {fn : List DefD} {xs : List XDef} {base : Str} {ns : List Str} {g : Addr → Option Obj} {s : Shared} (h : ∀ a, g a = s.heap.get? a) : obsY file n fa fn xs base ns g = (hookY file n fa fn xs base ns).obs s := by
  have e : g = s.heap.get? := funext h
  rw [e] <;> rfl
end Hx
end
section
set_option Elab.async false
set_option linter.all false
set_option maxRecDepth 100000
set_option maxHeartbeats 2000000
set_option autoImplicit false
namespace Sh
open PySem PySem.Spec PyProof.Rows L2
open C8 (pss_cut tCut)
open Evl (ixN_nat)
structure Bk (mg : Str → Option Value) : Prop extends Bl mg where
  b_zip : mg "zip" = none
  b_ValueError : mg "ValueError" = none
  c_HOLE : ∃ t, mg "HOLE" = some (.str "*" t)
def sV (l : List Str) : List V := l.map V.str
/-- the number of branches of a kind; 0 of what is no kind -/
def wR (rows : List Row) (z : Str) : Nat := match rows.find? (fun q => decide (q.1 = z)) with
  | some q => q.2.toNat
  | none => 0
/-- .. or -1 -/
def nmO (rows : List Row) (z : Str) : Int := match rows.find? (fun q => decide (q.1 = z)) with
  | some q => q.2
  | none => -1
theorem find_wL (rows : List Row) (z : Str) : valV (wL rows) (.inr z) = (rows.find? (fun q => decide (q.1 = z))).map fun q => V.int q.2 := by
  unfold valV wL
  rw [List.find?_map]
  have e : ((fun kv : Key × V => decide (kv.1 = Sum.inr z)) ∘ fun q : Row => ((.inr q.1 : Key), V.int q.2)) = fun q => decide (q.1 = z) := by
    funext q
    exact key_rr q.1 z
  rw [e, Option.map_map]
  rfl
theorem nm_case {rows : List Row} {m : Int} (R : ROk m rows) (z : Str) : (nmO rows z = -1 ∧ wR rows z = 0 ∧ valV (wL rows) (.inr z) = none ∧ ∀ q ∈ rows, q.1 ≠ z) ∨ (nmO rows z = ((wR rows z : Nat) : Int) ∧ wR rows z ≤ 3 ∧ valV (wL rows) (.inr z) = some (.int ((wR rows z : Nat) : Int)) ∧ ∃ q ∈ rows, q.1 = z) := by
  rw [find_wL]
  unfold nmO wR
  cases hf : rows.find? (fun q => decide (q.1 = z)) with
  | none => exact .inl ⟨rfl, rfl, rfl, fun q hq e => absurd (List.find?_eq_none.mp hf q hq) (by simp [e])⟩
  | some q =>
    have hm := List.mem_of_find?_eq_some hf
    have wd := R.wd q hm
    have e : ((q.2.toNat : Nat) : Int) = q.2 := by omega
    exact .inr ⟨e.symm, by show q.2.toNat ≤ 3; omega, by rw [Option.map_some]; show some (V.int q.2) = some (V.int ((q.2.toNat : Nat) : Int)); rw [e], q, hm, by have hp := List.find?_some hf; exact of_decide_eq_true hp⟩
theorem wR_le {rows : List Row} {m : Int} (R : ROk m rows) (z : Str) : wR rows z ≤ 3 := by
  rcases nm_case R z with h | h <;> omega
theorem get_wL {rows : List Row} {m : Int} (R : ROk m rows) (z : Str) : (valV (wL rows) (.inr z)).getD (.int 0) = .int ((wR rows z : Nat) : Int) := by
  rcases nm_case R z with h | h
  · rw [h.2.2.1, h.2.1]
    rfl
  · rw [h.2.2.1]
    rfl
theorem nm_nat {rows : List Row} {m : Int} (R : ROk m rows) (z : Str) : (nmO rows z).toNat = wR rows z := by
  rcases nm_case R z with h | h
  · rw [h.1, h.2.1]
    rfl
  · rw [h.1]
    exact Int.toNat_natCast _
theorem nm_of {rows : List Row} {m : Int} (R : ROk m rows) {z : Str} (h : ∃ q ∈ rows, q.1 = z) : nmO rows z = ((wR rows z : Nat) : Int) := by
  rcases nm_case R z with q | q
  · obtain ⟨x, hx, e⟩ := h
    exact absurd e (q.2.2.2 x hx)
  · exact q.1
theorem wR_mem {rows : List Row} {m : Int} (R : ROk m rows) {z : Str} (h : ∃ q ∈ rows, q.1 = z) : ∃ q ∈ rows, q.1 = z ∧ rows.find? (fun q => decide (q.1 = z)) = some q ∧ ((wR rows z : Nat) : Int) = q.2 ∧ wR rows z ≤ 3 := by
  obtain ⟨q, hq, e⟩ := h
  cases hf : rows.find? (fun q => decide (q.1 = z)) with
  | none => exact absurd (List.find?_eq_none.mp hf q hq) (by simp [e])
  | some q2 =>
    have hm := List.mem_of_find?_eq_some hf
    have hp := List.find?_some hf
    have wd := R.wd q2 hm
    have ew : wR rows z = q2.2.toNat := by unfold wR; rw [hf]
    exact ⟨q2, hm, of_decide_eq_true hp, rfl, by rw [ew]; omega, by rw [ew]; omega⟩
theorem val_wL {rows : List Row} {m : Int} (R : ROk m rows) {z : Str} (h : ∃ q ∈ rows, q.1 = z) : valV (wL rows) (.inr z) = some (.int ((wR rows z : Nat) : Int)) := by
  obtain ⟨q, _, _, hf, e, _⟩ := wR_mem R h
  rw [find_wL, hf, e]
  rfl
structure PlantOk (rows : List Row) (l : List Str) : Prop where
  f : Mth.forest (wR rows) l 1 = true
  k : ∀ z ∈ l, ∃ q ∈ rows, q.1 = z
  sz : l.length ≤ 2000
theorem PlantOk.pos {rows : List Row} {l : List Str} (x : PlantOk rows l) : 0 < l.length := List.length_pos_iff.mpr (Mth.forest_pos _ x.f)
/-- a stump -/
structure StumpOk (rows : List Row) (l : List Str) : Prop where
  f : Mth.forest (wR rows) l 1 = true
  k : ∀ z ∈ l, z = "*" ∨ ∃ q ∈ rows, q.1 = z
  sz : l.length ≤ 2000
theorem StumpOk.pos {rows : List Row} {l : List Str} (x : StumpOk rows l) : 0 < l.length := List.length_pos_iff.mpr (Mth.forest_pos _ x.f)
/-- the least place at which a row stops being one -/
def wO (rows : List Row) (hole : Bool) (z : Str) : Option Nat := if hole = true ∧ z = "*" then some 0 else if nmO rows z < 0 then none else some (wR rows z)
def fl (f : Str → Option Nat) : List Str → Nat → Nat → Option Nat
  | [], 0, _ => none
  | [], _ + 1, i => some i
  | _ :: _, 0, i => some i
  | z :: r, n + 1, i => match f z with
    | none => some i
    | some k => fl f r (n + k) (i + 1)
def fault (rows : List Row) (hole : Bool) (l : List Str) : Option Nat := fl (wO rows hole) l 1 0
theorem fl_ok {f : Str → Option Nat} {w : Str → Nat} : ∀ {l : List Str} {n i : Nat}, (∀ z k, f z = some k → w z = k) → fl f l n i = none → Mth.forest w l n = true ∧ ∀ z ∈ l, (f z).isSome = true
  | [], 0, _, _, _ => ⟨rfl, fun _ h => nomatch h⟩
  | [], _ + 1, _, _, h => nomatch h
  | _ :: _, 0, _, _, h => nomatch h
  | z :: r, n + 1, i, hw, h => by
    unfold fl at h
    cases e : f z with
    | none => rw [e] at h; cases h
    | some k =>
      rw [e] at h
      obtain ⟨h1, h2⟩ := fl_ok hw h
      refine ⟨?_, fun y hy => ?_⟩
      · unfold Mth.forest
        rw [hw z k e, Nat.add_comm]
        exact h1
      · rcases List.mem_cons.mp hy with q | q
        · rw [q, e]; rfl
        · exact h2 y q
theorem fl_le {f : Str → Option Nat} : ∀ {l : List Str} {n i j : Nat}, fl f l n i = some j → j ≤ i + l.length
  | [], 0, _, _, h => nomatch h
  | [], _ + 1, i, j, h => by cases h; exact Nat.le_refl _
  | _ :: _, 0, i, j, h => by cases h; omega
  | z :: r, n + 1, i, j, h => by
    unfold fl at h
    rw [List.length_cons]
    cases e : f z with
    | none => rw [e] at h; cases h; omega
    | some k => rw [e] at h; have := fl_le h; omega
theorem nm_star {rows : List Row} {m : Int} (R : ROk m rows) : nmO rows "*" = -1 := by
  rcases nm_case R "*" with q | q
  · exact q.1
  · obtain ⟨_, _, _, x, hx, e⟩ := q
    have n := (R.nm x hx).2.2 42 (by rw [e]; decide +kernel)
    omega
theorem wO_w {rows : List Row} {m : Int} (R : ROk m rows) {hole : Bool} {z : Str} {k : Nat} (h : wO rows hole z = some k) : wR rows z = k := by
  unfold wO at h
  split at h
  · rename_i c
    cases h
    rw [c.2]
    have star := nm_star R
    rcases nm_case R "*" with q | q
    · exact q.2.1
    · omega
  · split at h
    · cases h
    · cases h
      rfl
end Sh
end
section
set_option Elab.async false
set_option linter.all false
set_option maxRecDepth 100000
set_option maxHeartbeats 2000000
set_option autoImplicit false
namespace Sh
open PySem PySem.Spec PyProof.Rows L2
open C8 (pss_cut tCut)
open Evl (ixN_nat)
theorem str_at {l : List Str} {j : Nat} {z : Int} (h : j < l.length) (e : z = (j : Int)) : atI (l.map V.str) z = some (.str l[j]) := at_ofG e (by rw [List.getElem?_map, List.getElem?_eq_getElem h]; rfl)
theorem int_at {l : List Int} {j : Nat} {z x : Int} (h : l[j]? = some x) (e : z = (j : Int)) : atI (l.map V.int) z = some (.int x) := at_ofG e (by rw [List.getElem?_map, h]; rfl)
theorem ixz {n : Nat} {z : Int} {j : Nat} (h : j < n) (e : z = (j : Int)) : ixN n z = some j := by
  rw [e]
  exact ixN_nat h
theorem RowsAt.same {H H' : Hp} {r : Addr} {rows : List Row} (x : RowsAt H r rows) (s : Same H H') : RowsAt H' r rows := by
  obtain ⟨ts, a, b⟩ := x
  exact ⟨ts, s _ _ a, b.keep (TK.of_same s)⟩
/-! ### what may be raised -/
structure XA where
  T : Addr
  P : Addr
  S : Addr
  N : Addr
  U : Addr
  W : Addr
inductive Ex where
  | many
  | plant (i : Nat)
  | stump (i : Nat)
  | path (a : Addr)
  | kind (z : Str)
  | wrong (i j : Nat)
def Ex.cls (A : XA) : Ex → Addr
  | .many => A.T
  | .plant _ => A.P
  | .stump _ => A.S
  | .path _ => A.N
  | .kind _ => A.U
  | .wrong _ _ => A.W
def tmF : List (Str × V) := xfs ["what", "limit"] [.str "knots", .int 2000] []
def Ex.fs : Ex → List (Str × V)
  | .many => tmF
  | .plant i => xfs ["place"] [.int (i : Nat)] []
  | .stump i => xfs ["place"] [.int (i : Nat)] []
  | .path a => xfs ["path"] [.ref a] []
  | .kind z => xfs ["kind"] [.str z] []
  | .wrong i j => xfs ["wanted", "given"] [.int (i : Nat), .int (j : Nat)] []
def tmP : List V → Prop := fun vs => vs = [.str "knots", .int 2000]
def plP : List V → Prop := fun vs => ∃ i : Nat, vs = [.int (i : Nat)] ∧ i ≤ 10000
def npP : List V → Prop := fun vs => ∃ a, vs = [.ref a]
/-- a drawn word: short, of code points that are ones -/
def Kin (z : Str) : Prop := z.length ≤ 100 ∧ ∀ c ∈ z.cps.toList, c < 16 ^ 8
def ukP : List V → Prop := fun vs => ∃ z : Str, vs = [.str z] ∧ Kin z
def wrP : List V → Prop := fun vs => ∃ i j : Nat, vs = [.int (i : Nat), .int (j : Nat)] ∧ i ≤ 10000 ∧ j ≤ 10000
structure XS (P : Program) (w : World) (K : PySem.W.Frag) (mg : Str → Option Value) (A : XA) : Prop where
  xT : PySem.SupX.SupCls P w K mg "TooMany" A.T ["what", "limit"] tmP
  xS : PySem.SupX.SupCls P w K mg "InvalidStump" A.S ["place"] plP
  xU : PySem.SupX.SupCls P w K mg "UnknownKind" A.U ["kind"] ukP
/-- what is wanted where x is raised -/
def Rz (A : XA) (E : XK) (H : Hp) (x : Ex) : Prop := ∀ H' d, Same H H' → H' d = none → E (.ref (x.cls A)) (some d) (upd H' d (.xd x.fs))
theorem Rz.same {A : XA} {E : XK} {H H1 : Hp} {x : Ex} (h : Rz A E H x) (s : Same H H1) : Rz A E H1 x := fun H' d s' hd => h H' d (s.trans s') hd
def due (rows : List Row) (hole : Bool) (l : List Str) : Option Ex := if 2000 < l.length then some .many else (fault rows hole l).map (if hole = true then Ex.stump else Ex.plant)
/-- either way -/
def Way (A : XA) (E : XK) (H : Hp) (o : Option Ex) (ok : Prop) : Prop := match o with
  | none => ok
  | some x => Rz A E H x
theorem wO_some {rows : List Row} {m : Int} (R : ROk m rows) {hole : Bool} {z : Str} (h : (wO rows hole z).isSome = true) : (hole = true ∧ z = "*") ∨ ∃ q ∈ rows, q.1 = z := by
  unfold wO at h
  split at h
  · exact .inl ‹_›
  · rename_i c
    split at h
    · cases h
    · rename_i c2
      rcases nm_case R z with q | q
      · omega
      · exact .inr q.2.2.2
theorem due_plant {rows : List Row} {m : Int} (R : ROk m rows) {l : List Str} (h : due rows false l = none) : PlantOk rows l := by
  unfold due at h
  split at h
  · cases h
  · rename_i c
    have e : fault rows false l = none := by
      cases e : fault rows false l with
      | none => rfl
      | some i => rw [e] at h; cases h
    obtain ⟨h1, h2⟩ := fl_ok (w := wR rows) (fun z k q => wO_w R q) e
    exact ⟨h1, fun z hz => by rcases wO_some R (h2 z hz) with q | q; exact absurd q.1 (by decide); exact q, by omega⟩
theorem due_stump {rows : List Row} {m : Int} (R : ROk m rows) {l : List Str} (h : due rows true l = none) : StumpOk rows l := by
  unfold due at h
  split at h
  · cases h
  · rename_i c
    have e : fault rows true l = none := by
      cases e : fault rows true l with
      | none => rfl
      | some i => rw [e] at h; cases h
    obtain ⟨h1, h2⟩ := fl_ok (w := wR rows) (fun z k q => wO_w R q) e
    exact ⟨h1, fun z hz => by rcases wO_some R (h2 z hz) with q | q; exact .inl q.2; exact .inr q, by omega⟩
def lvs (hole : Bool) : List V := if hole = true then [.str "*"] else []
def spSize (K : PySem.W.Frag) (CT : Addr) : Sp := fun vs H Q E => ∃ (t : Addr) (xs : List V), vs = [.ref t] ∧ (SqL K H t xs ∨ SqT K H t xs) ∧ (xs.length ≤ 2000 → Q .non H) ∧ (2000 < xs.length → ∀ d, H d = none → E (.ref CT) (some d) (upd H d (.xd tmF)))
def ansF : Option Nat → V
  | none => .non
  | some i => .int (i : Nat)
def spFault (C : Addr) : Sp := fun vs H Q _ => ∃ (b t e : Addr) (rows : List Row) (l : List Str) (hole : Bool), vs = [.ref b, .ref t, .ref e] ∧ BedAt C H b rows ∧ ROk 8 rows ∧ Tq H t (sV l) ∧ l.length ≤ 6000 ∧ Tq H e (lvs hole) ∧ ∀ H', Same H H' → Q (ansF (fault rows hole l)) H'
/-- a check of a row -/
def spChk (C : Addr) (A : XA) (hole : Bool) : Sp := fun vs H Q E => ∃ (b t : Addr) (rows : List Row) (l : List Str), vs = [.ref b, .ref t] ∧ BedAt C H b rows ∧ ROk 8 rows ∧ Tq H t (sV l) ∧ l.length ≤ 6000 ∧ Way A E H (due rows hole l) (∀ H', Same H H' → Q .non H')
abbrev s_fault_place : Stmt := top 14
abbrev N_fault_place : List Str := ["bed", "entries", "leaves", "missing", "place", "entry"]
theorem sc_fault_place : FnScope N_fault_place ["bed", "entries", "leaves"] (defScope s_fault_place) := ⟨rfl, rfl, rfl, by decide +kernel, rfl, by decide +kernel, by decide +kernel⟩
section
variable {P : Program} {w : World} {K : PySem.W.Frag} {mg : Str → Option Value} {base : Heap} {C : Addr} {A : XA}
theorem ok_fault_place (T : Bk mg) (B : BedT K C) (D : Def0 K mg "fault_place" s_fault_place) : DefOk P w K mg base CX0 1 "fault_place" (spFault C) := by
  refine D.ok sc_fault_place (fun vs H Q E h => ?_) (fun _ _ _ _ _ _ us hl => match us, hl with | [_, _, _], _ => rfl) (fun f cdv A outer s H vs Q E hr h => ?_)
  · obtain ⟨b, t, e, rows, l, hole, rfl, _⟩ := h
    rfl
  · obtain ⟨b, t, lv, rows, l, hole, rfl, hB, R, ht, hsz, he, k⟩ := h
    have hu := hu_of hr
    refine ⟨_, (pss_cons (ps_set (i := 3) sc_fault_place.nd rfl (Or.inl rfl) pe_int)
      (pss_cons (ps_for PassesOwn.never rfl (pi_enumT (by rfl) T.b_enumerate (pa_cons (pv 1) pa_nil)) (pg_tup (by rfl) (pgs_cons (pg_name (i := 4) sc_fault_place.nd rfl (Or.inl rfl)) (pgs_cons (pg_name (i := 5) sc_fault_place.nd rfl (Or.inl rfl)) pgs_nil)))
        (pss_cons (ps_if (pt_cmpR op_eq (pv 3) pe_int (nomark _))
          (pss_one (ps_ret (pv 4)))
          pss_nil)
        (pss_one (ps_if (pt_cmpR op_in_seq (pv 5) (pv 2) (by rfl))
          (pss_one (ps_set (i := 3) sc_fault_place.nd rfl (Or.inl rfl) (pe_op op_sub (pv 3) pe_int)))
          (pss_one (ps_if (pt_cmp (pc_din hu (pv 5) (pe_fld (pv 0) rfl)))
            (pss_one (ps_set (i := 3) sc_fault_place.nd rfl (Or.inl rfl) (pe_op op_add (pe_op op_sub (pv 3) pe_int) (pe_dget hu (pe_fld (pv 0) rfl) (pv 5) (fun _ _ => rfl)))))
            (pss_one (ps_ret (pv 4)))))))))
      (pss_one (ps_ret (pe_ifExp (pt_cmpR op_eq (pv 3) pe_int (nomark _)) pe_non (pe_callB call_len_seq (by rfl) T.b_len boot_len (pa_cons (pv 1) pa_nil))))))), ?_⟩
    refine ⟨_, rfl, t, _, rfl, ht.sq, for_it (walk_enumT (xs := sV l)) (fun i σ H' => ∃ (x y : Option V) (n : Nat), σ = [some (.ref b), some (.ref t), some (.ref lv), some (.int (n : Nat)), x, y] ∧ Same H H' ∧ fl (wO rows hole) (l.drop i) n i = fault rows hole l)
      ⟨none, none, 1, rfl, Same.refl H, rfl⟩ (fun i σ H' _ ⟨_, _, _, _, q, _⟩ => (ht.same q).sq) ?_ ?_⟩
    · rintro i v σ H1 H2 hi ⟨x, y, n, rfl, s1, hf⟩ ⟨P1, v1, v2, rfl, hP1, rfl, e1, e2⟩
      have hil : i < l.length := by unfold sV at hi; rw [List.length_map] at hi; exact hi
      cases e1
      have e2' : (l.map V.str)[i]? = some v2 := e2
      rw [List.getElem?_map, List.getElem?_eq_getElem hil] at e2'
      cases e2'
      have s2 := s1.upd_new (o := .tup [.int ((i : Nat) : Int), .str l[i]]) hP1
      rw [List.drop_eq_getElem_cons hil] at hf
      obtain ⟨dx, r, kk, ww, rk, ts, h1, h2, h3, h4, h5, h6⟩ := hB.same s2
      refine ⟨P1, _, rfl, SqT.of upd_same, rfl, _, _, rfl, _, _, rfl, rfl, ?_⟩
      refine ⟨_, rfl, rfl, _, rfl, ite2 (fun e => ?_) (fun e => ?_)⟩
      · have z := V.int.inj (of_decide_eq_true e)
        have z2 : n = 0 := by omega
        subst z2
        have q : some i = fault rows hole l := hf
        have k2 := k _ s2
        rw [← q] at k2
        exact ⟨_, rfl, k2⟩
      · obtain ⟨m, rfl⟩ : ∃ m, n = m + 1 := ⟨n - 1, by
          have : n ≠ 0 := fun q => e (by rw [q]; exact decide_eq_true rfl)
          omega⟩
        have hf2 : (match wO rows hole l[i] with | none => some i | some k => fl (wO rows hole) (l.drop (i + 1)) (m + k) (i + 1)) = fault rows hole l := hf
        have ein : inV (.str l[i]) (lvs hole) = decide (hole = true ∧ l[i] = "*") := by
          cases hole
          · simp [lvs]
            rfl
          · show inV (.str l[i]) ([("*" : Str)].map V.str) = _
            rw [inV_str]
            simp
        refine ⟨_, rfl, _, rfl, lv, _, rfl, .inr ((he.same s2).sq), rfl, (by cases hole <;> rfl), _, rfl, ?_⟩
        rw [ein]
        refine ite2 (fun c => ?_) (fun c => ?_)
        · have c2 := of_decide_eq_true c
          unfold wO at hf2
          rw [if_pos c2] at hf2
          refine ⟨_, rfl, _, _, rfl, rfl, some (.int ((i : Nat) : Int)), some (.str l[i]), m, ?_, s2, hf2⟩
          rw [show ((m : Nat) : Int) = ((m + 1 : Nat) : Int) - 1 by omega]
          rfl
        · have c2 : ¬ (hole = true ∧ l[i] = "*") := fun q => c (decide_eq_true q)
          refine ⟨_, rfl, _, rfl, b, C, dx, _, _, rfl, h1, B.cl, B.nW, lk_widths _ _ _ _, ww, _, rfl, DGet.k (k := .inr l[i]) h5, _, rfl, ?_⟩
          rcases nm_case R l[i] with q | q
          · rw [q.2.2.1]
            refine ifn (by decide) ?_
            unfold wO at hf2
            rw [if_neg c2, if_pos (show nmO rows l[i] < 0 by omega)] at hf2
            have k2 := k _ s2
            rw [← hf2] at k2
            exact ⟨_, rfl, k2⟩
          · rw [q.2.2.1]
            refine ifp rfl ?_
            unfold wO at hf2
            rw [if_neg c2, if_neg (show ¬ nmO rows l[i] < 0 by omega)] at hf2
            refine ⟨_, rfl, _, _, rfl, rfl, _, rfl, b, C, dx, _, _, rfl, h1, B.cl, B.nW, lk_widths _ _ _ _, _, rfl, ww, _, rfl, (by rw [← q.2.2.1]; exact DGet.k (k := .inr l[i]) h5), _, _, rfl, rfl, ?_⟩
            refine ⟨some (.int ((i : Nat) : Int)), some (.str l[i]), m + wR rows l[i], ?_, s2, hf2⟩
            rw [show ((m + wR rows l[i] : Nat) : Int) = ((m + 1 : Nat) : Int) - 1 + ((wR rows l[i] : Nat) : Int) by omega]
            rfl
    · rintro σ H1 ⟨x, y, n, rfl, s1, hf⟩
      have el : (sV l).length = l.length := by simp [sV]
      rw [el, List.drop_length] at hf
      have k2 := k _ s1
      cases n with
      | zero =>
        have q : none = fault rows hole l := hf
        rw [← q] at k2
        exact ⟨_, rfl, rfl, _, rfl, ifp (by simp) k2⟩
      | succ m =>
        have q : some l.length = fault rows hole l := hf
        rw [← q] at k2
        refine ⟨_, rfl, rfl, _, rfl, ifn (fun c => ?_) ⟨_, rfl, t, _, rfl, .inr ((ht.same s1).sq), ?_⟩⟩
        · have := V.int.inj (of_decide_eq_true c)
          omega
        · rw [el]
          exact k2
theorem fault_le {rows : List Row} {hole : Bool} {l : List Str} {i : Nat} (h : fault rows hole l = some i) : i ≤ l.length := by
  have := fl_le h
  omega
end
end Sh
end
section
set_option Elab.async false
set_option linter.all false
set_option maxRecDepth 100000
set_option maxHeartbeats 2000000
set_option autoImplicit false
namespace Mth
/-- the starts of the first n branches above p -/
def starts {α : Type} (w : α → Nat) (l : List α) (p n : Nat) : List Int := (List.range n).map fun j => ((nxs w l (p + 1) j : Nat) : Int)
theorem starts_len {α : Type} (w : α → Nat) (l : List α) (p n : Nat) : (starts w l p n).length = n := by simp [starts]
theorem starts_succ {α : Type} (w : α → Nat) (l : List α) (p n : Nat) : starts w l p (n + 1) = starts w l p n ++ [((nxs w l (p + 1) n : Nat) : Int)] := by
  simp [starts, List.range_succ]
theorem starts_get {α : Type} (w : α → Nat) (l : List α) (p : Nat) {n j : Nat} (h : j < n) : (starts w l p n)[j]? = some ((nxs w l (p + 1) j : Nat) : Int) := by
  simp [starts, h]
theorem kids_drop (p : List Nat) {n j : Nat} (h : j < n) : (kids p n).drop (n - (j + 1)) = (p ++ [n - 1 - j]) :: (kids p n).drop (n - j) := by
  have e : n - (j + 1) < (kids p n).length := by rw [kids_len]; omega
  rw [List.drop_eq_getElem_cons e, show n - (j + 1) + 1 = n - j by omega]
  have q := kids_get (p := p) (n := n) (t := n - 1 - j) (by omega)
  rw [show n - 1 - j = n - (j + 1) by omega, List.getElem?_eq_getElem e] at q
  rw [Option.some.inj q, show n - 1 - j = n - (j + 1) by omega]
theorem forest_le {α : Type} (w : α → Nat) : ∀ (l : List α) (n : Nat), forest w l n = true → n ≤ l.length
  | [], n, h => by rw [forest_nil w h]; exact Nat.le_refl _
  | k :: r, 0, _ => Nat.zero_le _
  | k :: r, n + 1, h => by
    have q := forest_le w r (w k + n) h
    rw [List.length_cons]
    omega
theorem stk_le {α : Type} (w : α → Nat) {l : List α} (h : forest w l 1 = true) {i : Nat} (hi : i ≤ l.length) : (stk w l i).length ≤ l.length := by
  have q := forest_le w _ _ (stk_len w h i hi).2
  rw [List.length_drop] at q
  omega
theorem stk_dep {α : Type} (w : α → Nat) {l : List α} (h : forest w l 1 = true) : ∀ i, i ≤ l.length → ∀ p ∈ stk w l i, p.length ≤ i
  | 0, _, p, hp => by
    have e : p = [] := List.mem_singleton.mp hp
    rw [e]
    exact Nat.le_refl 0
  | i + 1, hi, p, hp => by
    obtain ⟨st, e1, e2⟩ := stk_step w h (i := i) (by omega)
    have ih := stk_dep w h i (by omega)
    rw [e2] at hp
    rcases List.mem_append.mp hp with q | q
    · unfold kids at q
      obtain ⟨j, _, rfl⟩ := List.mem_map.mp q
      have z := ih (pth w l i) (by rw [e1]; exact List.mem_cons_self)
      rw [List.length_append]
      exact Nat.succ_le_succ z
    · have z := ih p (by rw [e1]; exact List.mem_cons_of_mem _ q)
      omega
theorem pth_dep {α : Type} (w : α → Nat) {l : List α} (h : forest w l 1 = true) {i : Nat} (hi : i < l.length) : (pth w l i).length ≤ i := by
  obtain ⟨st, e1, e2⟩ := stk_step w h hi
  exact stk_dep w h i (Nat.le_of_lt hi) _ (by rw [e1]; exact List.mem_cons_self)
end Mth
namespace Sh
open PySem PySem.Spec PyProof.Rows L2
open C8 (pss_cut tCut)
open Evl (ixN_nat)
structure WfOk (rows : List Row) (l : List Str) : Prop where
  f : Mth.forest (wR rows) l 1 = true
  sz : l.length ≤ 2000
theorem PlantOk.wf {rows : List Row} {l : List Str} (x : PlantOk rows l) : WfOk rows l := ⟨x.f, x.sz⟩
theorem StumpOk.wf {rows : List Row} {l : List Str} (x : StumpOk rows l) : WfOk rows l := ⟨x.f, x.sz⟩
/-- a list of the ends -/
def EndsAt (H : Hp) (p : Addr) (rows : List Row) (l : List Str) : Prop := H p = some (.lst ((Mth.ends (wR rows) l).map V.int))
def spEnds (C : Addr) : Sp := fun vs H Q _ => ∃ (b t : Addr) (rows : List Row) (l : List Str), vs = [.ref b, .ref t] ∧ BedAt C H b rows ∧ ROk 8 rows ∧ Tq H t (l.map V.str) ∧ WfOk rows l ∧ ∀ H' p, Same H H' → H p = none → EndsAt H' p rows l → Q (.ref p) H'
theorem row_at {rows : List Row} {m : Int} (R : ROk m rows) {i : Nat} (h : i < rows.length) : ((wR rows (rows[i]).1 : Nat) : Int) = (rows[i]).2 := by
  obtain ⟨q, hq, e, hf, ew, _⟩ := wR_mem R ⟨rows[i], List.getElem_mem h, rfl⟩
  obtain ⟨j, hj, ej⟩ := List.mem_iff_getElem.mp hq
  have h1 : (rows.map (·.1))[j]'(by rw [List.length_map]; exact hj) = (rows.map (·.1))[i]'(by rw [List.length_map]; exact h) := by
    rw [List.getElem_map, List.getElem_map, ej, e]
  have e2 := (List.getElem_inj R.nd).mp h1
  subst e2
  rw [ew, ← ej]
/-- tuples of what f says -/
def TsAt {α : Type} (f : α → List V) (H : Hp) (ts : List Addr) (xs : List α) : Prop := ts.length = xs.length ∧ ∀ (i : Nat) (t : Addr) (x : α), ts[i]? = some t → xs[i]? = some x → Tq H t (f x)
theorem TsAt.keep {α : Type} {f : α → List V} {H H' : Hp} {ts : List Addr} {xs : List α} (x : TsAt f H ts xs) (k : TQ H H') : TsAt f H' ts xs := ⟨x.1, fun i t q a b => k _ _ (x.2 i t q a b)⟩
theorem TsAt.nil {α : Type} {f : α → List V} {H : Hp} : TsAt f H [] [] := ⟨rfl, fun i t x a => by simp at a⟩
theorem TsAt.snoc {α : Type} {f : α → List V} {H : Hp} {ts : List Addr} {xs : List α} {t : Addr} {q : α} (x : TsAt f H ts xs) (h : Tq H t (f q)) : TsAt f H (ts ++ [t]) (xs ++ [q]) := by
  refine ⟨by rw [List.length_append, List.length_append, x.1]; rfl, fun i u y a b => ?_⟩
  by_cases e : i < ts.length
  · rw [List.getElem?_append_left e] at a
    rw [List.getElem?_append_left (by rw [← x.1]; exact e)] at b
    exact x.2 i u y a b
  · rw [List.getElem?_append_right (by omega)] at a
    rw [List.getElem?_append_right (by rw [← x.1]; omega), ← x.1] at b
    have z : i - ts.length = 0 := by
      have := lt_of_get a
      simp at this
      omega
    rw [z] at a b
    cases a
    cases b
    exact h
theorem TsAt.pop {α : Type} {f : α → List V} {H : Hp} {ts : List Addr} {xs : List α} {q : α} (x : TsAt f H ts (xs ++ [q])) : ∃ t, ts[ts.length - 1]? = some t ∧ TsAt f H ts.dropLast xs ∧ Tq H t (f q) ∧ ts = ts.dropLast ++ [t] := by
  have hl : ts.length = xs.length + 1 := by rw [x.1, List.length_append]; rfl
  have hi : ts.length - 1 < ts.length := by omega
  refine ⟨ts[ts.length - 1], List.getElem?_eq_getElem hi, ⟨by rw [List.length_dropLast]; omega, fun i t y a b => ?_⟩, x.2 (ts.length - 1) _ _ (List.getElem?_eq_getElem hi) (by rw [hl]; simp), ?_⟩
  · have hb := lt_of_get b
    rw [List.getElem?_dropLast] at a
    rw [if_pos (by omega)] at a
    exact x.2 i t y a (by rw [List.getElem?_append_left hb]; exact b)
  · have hn : ts ≠ [] := fun e => by rw [e] at hl; simp at hl
    have := List.dropLast_concat_getLast hn
    rw [List.getLast_eq_getElem] at this
    exact this.symm
theorem TsAt.at {α : Type} {f : α → List V} {H : Hp} {ts : List Addr} {xs : List α} (x : TsAt f H ts xs) {i : Nat} (h : i < xs.length) : ∃ t, ts[i]? = some t ∧ (ts.map V.ref)[i]? = some (.ref t) ∧ Tq H t (f xs[i]) := by
  have h2 : i < ts.length := by rw [x.1]; exact h
  exact ⟨ts[i], List.getElem?_eq_getElem h2, by rw [List.getElem?_map, List.getElem?_eq_getElem h2]; rfl, x.2 i _ _ (List.getElem?_eq_getElem h2) (List.getElem?_eq_getElem h)⟩
def pV (p : List Nat) : List V := p.map fun n => V.int ((n : Nat) : Int)
theorem catA_of {K : PySem.W.Frag} {H : Hp} {a b : Addr} {xs ys : List V} {Q : VK} (ha : Tq H a xs) (hb : Tq H b ys) (hl : xs.length + ys.length ≤ 100000) (k : ∀ r H', Same H H' → Tq H' r (xs ++ ys) → Q (.ref r) H') : rCatA K (.ref a) (.ref b) H Q := by
  refine ⟨a, b, xs, ys, rfl, rfl, ha.sq, hb.sq, le_line hl, fun e => k b H (Same.refl H) (by rw [e]; exact hb), fun _ e => k a H (Same.refl H) (by rw [e, List.append_nil]; exact ha), fun _ _ p hp => k p _ ((Same.refl H).upd_new hp) (.of upd_same)⟩
theorem slA_of {K : PySem.W.Frag} {H : Hp} {a : Addr} {xs : List V} {Q : VK} {i j : Nat} (ha : Tq H a xs) (hj : j ≤ xs.length) (hi : i ≤ j) (k : ∀ r H', Same H H' → Tq H' r ((xs.drop i).take (j - i)) → Q (.ref r) H') : rSlA K (.ref a) (some (i : Int)) (some (j : Int)) H Q := by
  have e1 : HT.sIx xs.length 0 (some (i : Int)) = i := by rw [HT.sIx_nat]; omega
  have e2 : HT.sIx xs.length xs.length (some (j : Int)) = j := by rw [HT.sIx_nat]; omega
  refine ⟨a, xs, rfl, ha.sq, fun h => ?_, fun _ p hp => ?_⟩
  · rw [e1, e2] at h
    refine k a H (Same.refl H) ?_
    rw [h.1, h.2, List.drop_zero, Nat.sub_zero, List.take_length]
    exact ha
  · have hc : cutV xs (some (i : Int)) (some (j : Int)) = (xs.drop i).take (j - i) := by
      unfold cutV
      rw [e1, e2]
    rw [hc]
    exact k p _ ((Same.refl H).upd_new hp) (.of upd_same)
def spStarts (C : Addr) : Sp := fun vs H Q _ => ∃ (b t e : Addr) (p : Nat) (rows : List Row) (l : List Str) (hp : p < l.length), vs = [.ref b, .ref t, .ref e, .int ((p : Nat) : Int)] ∧ BedAt C H b rows ∧ ROk 8 rows ∧ Tq H t (l.map V.str) ∧ WfOk rows l ∧ EndsAt H e rows l ∧
  ∀ H' q, Same H H' → H q = none → H' q = some (.lst ((Mth.starts (wR rows) l p (wR rows l[p])).map V.int)) → Q (.ref q) H'
/-- a list of tuples, the paths of all knots -/
def PthsL (H : Hp) (q : Addr) (rows : List Row) (l : List Str) : Prop := ∃ ts, H q = some (.lst (ts.map V.ref)) ∧ TsAt pV H ts ((List.range l.length).map (Mth.pth (wR rows) l))
def spPaths (C : Addr) : Sp := fun vs H Q _ => ∃ (b t : Addr) (rows : List Row) (l : List Str), vs = [.ref b, .ref t] ∧ BedAt C H b rows ∧ ROk 8 rows ∧ Tq H t (l.map V.str) ∧ WfOk rows l ∧ ∀ H' q, Same H H' → H q = none → PthsL H' q rows l → Q (.ref q) H'
abbrev s_ends_of : Stmt := top 15
abbrev N_ends_of : List Str := ["bed", "tree", "ends", "place", "end", "_"]
theorem sc_ends_of : FnScope N_ends_of ["bed", "tree"] (defScope s_ends_of) := ⟨rfl, rfl, rfl, by decide +kernel, rfl, by decide +kernel, by decide +kernel⟩
abbrev s_paths_of : Stmt := top 16
abbrev N_paths_of : List Str := ["bed", "tree", "paths", "waiting", "entry", "path", "index"]
theorem sc_paths_of : FnScope N_paths_of ["bed", "tree"] (defScope s_paths_of) := ⟨rfl, rfl, rfl, by decide +kernel, rfl, by decide +kernel, by decide +kernel⟩
section
variable {P : Program} {w : World} {K : PySem.W.Frag} {mg : Str → Option Value} {base : Heap} {C CT : Addr}
def spNumber : Sp := fun vs H Q _ => ∃ (r : Addr) (rows : List Row) (z : Str), vs = [.ref r, .str z] ∧ RowsAt H r rows ∧ ROk 8 rows ∧ Q (.int (nmO rows z)) H
theorem ok_ends_of (T : Bk mg) (B : BedT K C) (D : Def0 K mg "ends_of" s_ends_of) : DefOk P w K mg base CX0 1 "ends_of" (spEnds C) := by
  refine D.ok sc_ends_of (fun vs H Q E h => ?_) (fun _ _ _ _ _ _ us hl => match us, hl with | [_, _], _ => rfl) (fun f cdv A outer s H vs Q E hr h => ?_)
  · obtain ⟨b, t, rows, l, rfl, _⟩ := h
    rfl
  · obtain ⟨b, t, rows, l, rfl, hB, R, ht, O, k⟩ := h
    have hu := hu_of hr
    have hsz := O.sz
    refine ⟨_, (pss_cons (ps_setLc (i := 2) (own := [("_", 5)]) (g := (gName 5)) (tt := tYes) rfl sc_ends_of.nd rfl rfl (sw_true rfl rfl rfl (by decide +kernel)) (pi_tup (pv 1)) (blkOk_by (N := N_ends_of) (sc := defScope s_ends_of) (by decide +kernel)) (fun _ _ _ _ _ => (pg_name (i := 5) sc_ends_of.nd rfl (Or.inl rfl))) (fun _ _ _ _ _ => pts_nil) (fun _ _ _ _ _ => pe_int))
      (pss_cons (ps_for PassesOwn.never rfl (pi_range3 (by rfl) T.b_range (pa_cons (pe_op op_sub (pe_callB call_len_seq (by rfl) T.b_len boot_len (pa_cons (pv 1) pa_nil)) pe_int) (pa_cons (pe_un un_neg pe_int) (pa_cons (pe_un un_neg pe_int) pa_nil)))) (pg_name (i := 3) sc_ends_of.nd rfl (Or.inl rfl))
        (pss_cons (ps_set (i := 4) sc_ends_of.nd rfl (Or.inl rfl) (pe_op op_add (pv 3) pe_int))
        (pss_cons (ps_for PassesOwn.never rfl (pi_range1 (by rfl) T.b_range (pa_cons (pe_dget2 hu (pe_fld (pv 0) rfl) (pe_ix ix_tup (pv 1) (pv 3) (fun _ _ => rfl)) pe_int ⟨rfl, rfl, rfl, rfl⟩) pa_nil)) (pg_name (i := 5) sc_ends_of.nd rfl (Or.inl rfl))
          (pss_one (ps_set (i := 4) sc_ends_of.nd rfl (Or.inl rfl) (pe_ix ix_list (pv 2) (pv 4) (fun _ _ => rfl)))))
        (pss_one (ps_asg (pv 4) (pg_sub (pv 2) (pv 3) set_list))))))
      (pss_one (ps_ret (pv 2))))), ?_⟩
    refine ⟨_, rfl, t, rfl, ⟨_, ht.sq⟩, fun D hD => lc_it (walk_tup (xs := l.map V.str)) (fun i H' => Same H H' ∧ H' D = some (.lst ((List.replicate i (0 : Int)).map V.int))) ⟨(Same.refl H).upd_new hD, upd_same⟩ (fun i H' _ ⟨q, _⟩ => (ht.same q).sq) ?_ ?_⟩
    · rintro i v H1 H2 hi ⟨q1, q2⟩ ⟨rfl, hv⟩
      refine ⟨rfl, _, q2, ?_, q1.upd_own hD, ?_⟩
      · rw [List.length_map, List.length_replicate]
        rw [List.length_map] at hi
        exact lt_line (by omega)
      · rw [upd_same, List.replicate_succ', List.map_append]
        rfl
    · rintro H1 ⟨q1, q2⟩
      rw [List.length_map] at q2
      refine ⟨_, rfl, t, _, rfl, .inr ((ht.same q1).sq), _, _, rfl, rfl, _, rfl, _, rfl, _, _, _, _, rfl, RgC.neg (by rw [List.length_map]; omega) (by rw [List.length_map]; omega) (by decide) (by decide), ?_⟩
      rw [show ((((l.map V.str).length : Nat) : Int) - 1 - -1).toNat = l.length by rw [List.length_map]; omega]
      refine for_rangeC (fun i σ H' => ∃ (x y z : Option V) (es : List Int), σ = [some (.ref b), some (.ref t), some (.ref D), x, y, z] ∧ Same H H' ∧ H' D = some (.lst (es.map V.int)) ∧ es.length = l.length ∧ ∀ j, l.length - i ≤ j → j < l.length → es[j]? = some ((Mth.nxs (wR rows) l j 1 : Nat) : Int)) ?_ ?_ ?_
      · exact ⟨none, none, none, _, rfl, q1, q2, List.length_replicate, fun j h1 h2 => absurd h1 (by omega)⟩
      · rintro i σ H2 hi ⟨x, y, z, es, rfl, s2, p2, el, eh⟩
        have epl : (((l.map V.str).length : Nat) : Int) - 1 + ((i : Nat) : Int) * -1 = ((l.length - 1 - i : Nat) : Int) := by rw [List.length_map]; omega
        rw [epl]
        generalize hp : l.length - 1 - i = p
        have hpl : p < l.length := by omega
        have hk : l[p]? = some l[p] := List.getElem?_eq_getElem hpl
        obtain ⟨dx, r, kk, ww, rk, ts, h1, h2, h3, h4, h5, h6⟩ := hB.same s2
        refine ⟨_, rfl, _, _, rfl, rfl, ?_⟩
        refine ⟨_, rfl, b, C, dx, _, _, rfl, h1, B.cl, B.nW, lk_widths _ _ _ _, ww, rfl, .inl ⟨_, .inl h5⟩, _, rfl, _, rfl, t, _, _, _, rfl, rfl, (ht.same s2).sq, str_at hpl rfl, _, DGet.k (k := .inr l[p]) h5, ?_⟩
        rw [get_wL R]
        have hw3 := wR_le R (l[p])
        refine ⟨_, rfl, (show -(2 ^ 62) ≤ ((wR rows l[p] : Nat) : Int) by omega), (show ((wR rows l[p] : Nat) : Int) < 2 ^ 62 by omega), ?_⟩
        rw [Int.toNat_natCast]
        refine for_range (fun i2 σ H' => ∃ (z : Option V), σ = [some (.ref b), some (.ref t), some (.ref D), some (.int ((p : Nat) : Int)), some (.int ((Mth.nxs (wR rows) l (p + 1) i2 : Nat) : Int)), z] ∧ H' = H2) ?_ ?_ ?_
        · refine ⟨z, ?_, rfl⟩
          rw [Mth.nxs_zero _ hpl]
          rfl
        · rintro i2 σ H3 hi2 ⟨z, rfl, rfl⟩
          obtain ⟨m1, m2, m3⟩ := Mth.end_step (wR rows) O.f hk hi2
          refine ⟨_, rfl, _, rfl, D, _, _, _, rfl, rfl, SqL.of p2, int_at (eh _ (by omega) m1) rfl, ?_⟩
          rw [m3]
          exact ⟨_, rfl, rfl⟩
        · rintro σ H3 ⟨z, rfl, rfl⟩
          rw [Mth.end_last _ hk]
          refine ⟨_, rfl, _, rfl, _, rfl, D, _, _, p, rfl, rfl, p2, ixz (by rw [List.length_map, el]; exact hpl) rfl, ?_⟩
          refine ⟨_, _, _, es.set p ((Mth.nxs (wR rows) l p 1 : Nat) : Int), rfl, s2.upd_own hD, by rw [upd_same, List.map_set], by rw [List.length_set]; exact el, fun j h1 h2 => ?_⟩
          by_cases e : j = p
          · subst e
            rw [List.getElem?_set_self (by omega)]
          · rw [List.getElem?_set_ne (Ne.symm e)]
            exact eh j (by omega) h2
      · rintro σ H2 ⟨x, y, z, es, rfl, s2, p2, el, eh⟩
        refine ⟨_, rfl, ?_⟩
        refine k _ _ s2 hD ?_
        unfold EndsAt
        rw [← Mth.ends_of_get (wR rows) el (fun j hj => eh j (by omega) hj)]
        exact p2
theorem ok_paths_of (T : Bk mg) (B : BedT K C) (D : Def0 K mg "paths_of" s_paths_of) : DefOk P w K mg base CX0 1 "paths_of" (spPaths C) := by
  refine D.ok sc_paths_of (fun vs H Q E h => ?_) (fun _ _ _ _ _ _ us hl => match us, hl with | [_, _], _ => rfl) (fun f cdv A outer s H vs Q E hr h => ?_)
  · obtain ⟨b, t, rows, l, rfl, _⟩ := h
    rfl
  · obtain ⟨b, t, rows, l, rfl, hB, R, ht, O, k⟩ := h
    have hu := hu_of hr
    have hsz := O.sz
    refine ⟨_, (pss_cons (ps_set (i := 2) sc_paths_of.nd rfl (Or.inl rfl) (pe_lst pa_nil))
      (pss_cons (ps_set (i := 3) sc_paths_of.nd rfl (Or.inl rfl) (pe_lst (pa_cons (pe_tup pa_nil) pa_nil)))
      (pss_cons (ps_for PassesOwn.never rfl (pi_tup (pv 1)) (pg_name (i := 4) sc_paths_of.nd rfl (Or.inl rfl))
        (pss_cons (ps_set (i := 5) sc_paths_of.nd rfl (Or.inl rfl) (pe_bm0 PySem.F.plainAttrs_list PySem.F.slot_list_pop PySem.F.type_list_pop mt_pop (pv 3)))
        (pss_cons (ps_expr (pe_bm PySem.F.plainAttrs_list PySem.F.slot_list_append PySem.F.type_list_append mt_append (pv 2) (pa_cons (pv 5) pa_nil)))
        (pss_one (ps_for PassesOwn.never rfl (pi_range3 (by rfl) T.b_range (pa_cons (pe_op op_sub (pe_dget2 hu (pe_fld (pv 0) rfl) (pv 4) pe_int ⟨rfl, rfl, rfl, rfl⟩) pe_int) (pa_cons (pe_un un_neg pe_int) (pa_cons (pe_un un_neg pe_int) pa_nil)))) (pg_name (i := 6) sc_paths_of.nd rfl (Or.inl rfl))
          (pss_one (ps_expr (pe_bm PySem.F.plainAttrs_list PySem.F.slot_list_append PySem.F.type_list_append mt_append (pv 3) (pa_cons (pe_op op_catA (pv 5) (pe_tup (pa_cons (pv 6) pa_nil))) pa_nil)))))))))
      (pss_one (ps_ret (pv 2)))))), ?_⟩
    refine ⟨le_line (by decide), fun p hp => ?_⟩
    have s1 := (Same.refl H).upd_new (o := .lst []) hp
    refine ⟨le_line (by decide), fun e he => ?_⟩
    have s2 := s1.upd_new (o := .tup []) he
    have pn2 : (upd (upd H p (.lst [])) e (.tup [])) p = some (.lst []) := by rw [upd_ne (ne_of_none upd_same he)]; exact upd_same
    refine ⟨le_line (show 1 ≤ 100000 by decide), fun q hq => ?_⟩
    have s3 := s2.upd_new (o := .lst [.ref e]) hq
    have pq : p ≠ q := ne_of_none pn2 hq
    have eq : e ≠ q := ne_of_none upd_same hq
    have hpN : H p = none := hp
    have hqN : H q = none := by
      cases z : H q with
      | none => rfl
      | some o => rw [s2 _ _ z] at hq; cases hq
    refine ⟨_, rfl, t, rfl, ⟨_, (ht.same s3).sq⟩, for_it (walk_tup (xs := l.map V.str)) (fun i σ H' => ∃ (x y z : Option V) (ps ws : List Addr), σ = [some (.ref b), some (.ref t), some (.ref p), some (.ref q), x, y, z] ∧ Same H H' ∧
      H' p = some (.lst (ps.map V.ref)) ∧ H' q = some (.lst (ws.map V.ref)) ∧ TsAt pV H' ps ((List.range i).map (Mth.pth (wR rows) l)) ∧ TsAt pV H' ws (Mth.stk (wR rows) l i).reverse)
      ⟨none, none, none, [], [e], rfl, s3, by rw [upd_ne pq]; exact pn2, upd_same, TsAt.nil, ?_⟩ (fun i σ H' _ ⟨_, _, _, _, _, _, q, _⟩ => (ht.same q).sq) ?_ ?_⟩
    · exact TsAt.nil.snoc (q := []) (.of (by rw [upd_ne eq]; exact upd_same))
    · rintro i v σ H1 H2 hi ⟨x, y, z, ps, ws, rfl, s4, hP, hQ, tP, tQ⟩ ⟨rfl, hv⟩
      have hil : i < l.length := by rw [List.length_map] at hi; exact hi
      rw [List.getElem?_map, List.getElem?_eq_getElem hil] at hv
      cases hv
      obtain ⟨st, e1, e2⟩ := Mth.stk_step (wR rows) O.f hil
      have F := Mth.stk_len (wR rows) O.f i (Nat.le_of_lt hil)
      rw [e1, List.reverse_cons] at tQ
      obtain ⟨a, a1, a2, a3, a4⟩ := tQ.pop
      refine ⟨_, rfl, .inl ⟨rfl, _, SqL.of hQ⟩, q, _, _, rfl, rfl, hQ, (by rw [List.length_map, List.getElem?_map, a1]; rfl), ?_⟩
      have hqp : q ≠ p := pq.symm
      have hda : (ws.map V.ref).dropLast = ws.dropLast.map V.ref := (List.map_dropLast ..).symm
      rw [hda]
      have s5 := s4.upd_own (o := .lst (ws.dropLast.map V.ref)) hqN
      refine ⟨_, rfl, .inl ⟨rfl, _, SqL.of (by rw [upd_ne pq]; exact hP)⟩, _, rfl, p, _, _, rfl, rfl, (by rw [upd_ne pq]; exact hP), lt_line (by rw [List.length_map, tP.1, List.length_map, List.length_range]; omega), ?_⟩
      have s6 := s5.upd_own (o := .lst (ps.map V.ref ++ [V.ref a])) hpN
      obtain ⟨dx, r, kk, ww, rk, ts, h1, h2, h3, h4, h5, h6⟩ := hB.same s6
      have hw3 := wR_le R (l[i])
      refine ⟨_, rfl, b, C, dx, _, _, rfl, h1, B.cl, B.nW, lk_widths _ _ _ _, ww, rfl, .inl ⟨_, .inl h5⟩, _, rfl, _, DGet.k (k := .inr l[i]) h5, ?_⟩
      rw [get_wL R]
      refine ⟨_, _, rfl, rfl, _, rfl, _, rfl, _, _, _, _, rfl, RgC.neg (by omega) (by omega) (by decide) (by decide), ?_⟩
      rw [show (((wR rows l[i] : Nat) : Int) - 1 - -1).toNat = wR rows l[i] by omega]
      have tk6 : TQ H2 (upd (upd H2 q (.lst (ws.dropLast.map V.ref))) p (.lst (ps.map V.ref ++ [V.ref a]))) := (TQ.lst hQ).trans (TQ.lst (ys := ps.map V.ref) (by rw [upd_ne pq]; exact hP))
      refine for_rangeC (fun j σ H' => ∃ (z : Option V) (ws : List Addr), σ = [some (.ref b), some (.ref t), some (.ref p), some (.ref q), some (.str l[i]), some (.ref a), z] ∧ Same H H' ∧
        H' p = some (.lst ((ps ++ [a]).map V.ref)) ∧ H' q = some (.lst (ws.map V.ref)) ∧ TsAt pV H' (ps ++ [a]) ((List.range (i + 1)).map (Mth.pth (wR rows) l)) ∧ TsAt pV H' ws (st.reverse ++ ((Mth.kids (Mth.pth (wR rows) l i) (wR rows l[i])).drop (wR rows l[i] - j)).reverse) ∧ Tq H' a (pV (Mth.pth (wR rows) l i))) ?_ ?_ ?_
      · refine ⟨z, ws.dropLast, rfl, s6, by rw [upd_same, List.map_append]; rfl, by rw [upd_ne hqp, upd_same], ?_, ?_, tk6 _ _ a3⟩
        · rw [List.range_succ, List.map_append]
          exact (tP.keep tk6).snoc (tk6 _ _ a3)
        · rw [Nat.sub_zero, List.drop_of_length_le (by rw [Mth.kids_len]; exact Nat.le_refl _), List.reverse_nil, List.append_nil]
          exact a2.keep tk6
      · rintro j σ H3 hj ⟨z, ws, rfl, s7, hP3, hQ3, tP3, tQ3, a3'⟩
        refine ⟨_, rfl, .inl ⟨rfl, _, SqL.of hQ3⟩, _, rfl, _, rfl, le_line (show 1 ≤ 100000 by decide), fun u hu1 => ?_⟩
        have na : a ≠ u := a3'.ne_none hu1
        have nq : q ≠ u := ne_of_none hQ3 hu1
        have np : p ≠ u := ne_of_none hP3 hu1
        have hdep := Mth.pth_dep (wR rows) O.f hil
        refine catA_of (TQ.new hu1 _ _ a3') (.of upd_same) (by unfold pV; rw [List.length_map, List.length_singleton]; omega) (fun c H4 s8 hc => ?_)
        have s9 := (Same.refl H3).upd_new (o := .tup [V.int (((wR rows l[i] : Nat) : Int) - 1 + ((j : Nat) : Int) * -1)]) hu1
        have s10 := s9.trans s8
        have hle := Mth.stk_le (wR rows) O.f (i := i + 1) hil
        rw [e2, List.length_append, Mth.kids_len] at hle
        refine ⟨q, _, _, rfl, rfl, s10 _ _ hQ3, ?_, ?_⟩
        · rw [List.length_map, tQ3.1, List.length_append, List.length_reverse, List.length_reverse, List.length_drop, Mth.kids_len]
          exact lt_line (by omega)
        have tk10 : TQ H3 (upd H4 q (.lst (ws.map V.ref ++ [V.ref c]))) := (TQ.of_same s10).trans (TQ.lst (s10 _ _ hQ3))
        refine ⟨_, ws ++ [c], rfl, (s7.trans s10).upd_own hqN, by rw [upd_ne pq]; exact s10 _ _ hP3, by rw [upd_same, List.map_append]; rfl, ?_, ?_, ?_⟩
        · exact tP3.keep tk10
        · rw [Mth.kids_drop _ hj, List.reverse_cons, ← List.append_assoc]
          refine (tQ3.keep tk10).snoc ?_
          refine TQ.lst (s10 _ _ hQ3) _ _ ?_
          have hc2 := hc
          rw [show ((wR rows l[i] : Nat) : Int) - 1 + ((j : Nat) : Int) * -1 = ((wR rows l[i] - 1 - j : Nat) : Int) by omega] at hc2
          unfold pV at hc2 ⊢
          rw [List.map_append]
          exact hc2
        · exact tk10 _ _ a3'
      · rintro σ H3 ⟨z, ws, rfl, s7, hP3, hQ3, tP3, tQ3, a3'⟩
        refine ⟨_, _, _, _, ws, rfl, s7, hP3, hQ3, tP3, ?_⟩
        rw [Nat.sub_self, List.drop_zero, ← List.reverse_append, ← e2] at tQ3
        exact tQ3
    · rintro σ H1 ⟨x, y, z, ps, ws, rfl, s4, hP, hQ, tP, tQ⟩
      refine ⟨_, rfl, k _ _ s4 hpN ⟨ps, hP, ?_⟩⟩
      rw [List.length_map] at tP
      exact tP
end
end Sh
end
section
set_option Elab.async false
set_option linter.all false
set_option maxRecDepth 100000
set_option maxHeartbeats 2000000
set_option autoImplicit false
namespace Mth
def tall {α : Type} (w : α → Nat) (l : List α) : Nat → Nat
  | 0 => 0
  | i + 1 => max (tall w l i) ((pth w l i).length + 1)
/-- the branch at a place -/
def cut {α : Type} (w : α → Nat) (l : List α) (a : Nat) : List α := (l.drop a).take (nxs w l a 1 - a)
def brs {α : Type} (w : α → Nat) (l : List α) (p n : Nat) : List (List α) := (List.range n).map fun c => cut w l (nxs w l (p + 1) c)
theorem brs_succ {α : Type} (w : α → Nat) (l : List α) (p n : Nat) : brs w l p (n + 1) = brs w l p n ++ [cut w l (nxs w l (p + 1) n)] := by
  simp [brs, List.range_succ]
def wd {α : Type} (w : α → Nat) (l : List α) (p : Nat) : Nat := match l[p]? with
  | some k => w k
  | none => 0
theorem wd_of {α : Type} (w : α → Nat) {l : List α} {p : Nat} (h : p < l.length) : wd w l p = w l[p] := by
  unfold wd
  rw [List.getElem?_eq_getElem h]
theorem brs_len {α : Type} (w : α → Nat) (l : List α) (p n : Nat) : (brs w l p n).length = n := by simp [brs]
theorem kids_lens (p : List Nat) (n : Nat) : ((kids p n).reverse.map fun p => ((p.length + 1 : Nat) : Int)) = List.replicate n ((p.length + 2 : Nat) : Int) := by
  refine List.eq_replicate_iff.mpr ⟨by rw [List.length_map, List.length_reverse, kids_len], fun b hb => ?_⟩
  obtain ⟨q, hq, rfl⟩ := List.mem_map.mp hb
  unfold kids at hq
  obtain ⟨a, _, rfl⟩ := List.mem_map.mp (List.mem_reverse.mp hq)
  rw [List.length_append]
  rfl
end Mth
namespace Sh
open PySem PySem.Spec PyProof.Rows L2
open C8 (pss_cut tCut)
open Evl (ixN_nat)
theorem valV_rk {ns : List Str} (nd : ns.Nodup) {j : Nat} (h : j < ns.length) : valV (rkL ns) (.inr ns[j]) = some (.int ((j : Nat) : Int)) := by
  unfold valV rkL
  rw [List.find?_map]
  have e : ((fun kv : Key × V => decide (kv.1 = Sum.inr ns[j])) ∘ fun q : Str × Nat => ((.inr q.1 : Key), V.int ((q.2 : Nat) : Int))) = fun q => decide (q.1 = ns[j]) := by
    funext q
    exact key_rr q.1 _
  rw [e]
  have hm : (ns[j], j) ∈ ns.zipIdx := by
    rw [List.mem_iff_getElem?]
    exact ⟨j, by rw [List.getElem?_zipIdx, List.getElem?_eq_getElem h]; simp⟩
  cases hf : ns.zipIdx.find? (fun q => decide (q.1 = ns[j])) with
  | none => exact absurd (List.find?_eq_none.mp hf _ hm) (by simp)
  | some q =>
    have h1 := List.mem_of_find?_eq_some hf
    have h2 : q.1 = ns[j] := by simpa using List.find?_some hf
    obtain ⟨i, hi, ei⟩ := List.mem_iff_getElem.mp h1
    rw [List.getElem_zipIdx] at ei
    rw [List.length_zipIdx] at hi
    rw [← ei] at h2
    have h3 := (List.getElem_inj nd).mp h2
    subst h3
    rw [← ei]
    simp
/-- the ranks of a plant's knots -/
def RanksOf (ns : List Str) (l : List Str) (ks : List Int) : Prop := ks.length = l.length ∧ ∀ (i : Nat) (z : Str), l[i]? = some z → ∃ j : Nat, ns[j]? = some z ∧ ks[i]? = some ((j : Nat) : Int)
theorem RanksOf.uniq {ns l : List Str} (nd : ns.Nodup) {ks ks' : List Int} (x : RanksOf ns l ks) (y : RanksOf ns l ks') : ks = ks' := by
  refine List.ext_getElem? fun i => ?_
  by_cases h : i < l.length
  · obtain ⟨j, a, b⟩ := x.2 i _ (List.getElem?_eq_getElem h)
    obtain ⟨j', a', b'⟩ := y.2 i _ (List.getElem?_eq_getElem h)
    obtain ⟨hj, ej⟩ := List.getElem?_eq_some_iff.mp a
    obtain ⟨hj', ej'⟩ := List.getElem?_eq_some_iff.mp a'
    have := (List.getElem_inj nd).mp (ej.trans ej'.symm)
    subst this
    rw [b, b']
  · have a := x.1
    have b := y.1
    rw [List.getElem?_eq_none (by omega), List.getElem?_eq_none (by omega)]
theorem RanksOf.snoc {ns l : List Str} {ks : List Int} {i j : Nat} {z : Str} (x : RanksOf ns (l.take i) ks) (h : l[i]? = some z) (hj : ns[j]? = some z) : RanksOf ns (l.take (i + 1)) (ks ++ [((j : Nat) : Int)]) := by
  have hi := lt_of_get h
  have hk : ks.length = i := by rw [x.1, List.length_take]; omega
  refine ⟨by rw [List.length_append, hk, List.length_take]; simp; omega, fun k u hu => ?_⟩
  rw [← take_snoc h] at hu
  by_cases e : k < i
  · rw [List.getElem?_append_left (by rw [List.length_take]; omega)] at hu
    obtain ⟨j', a, b⟩ := x.2 k u hu
    exact ⟨j', a, by rw [List.getElem?_append_left (by omega)]; exact b⟩
  · have hlt := lt_of_get hu
    rw [List.length_append, List.length_take] at hlt
    have ek : k = i := by simp at hlt; omega
    subst ek
    rw [List.getElem?_append_right (by rw [List.length_take]; omega), List.length_take] at hu
    rw [show k - min k l.length = 0 by omega] at hu
    cases hu
    exact ⟨j, hj, by rw [List.getElem?_append_right (by omega), hk, Nat.sub_self]; rfl⟩
theorem way2 {A : XA} {E : XK} {H : Hp} {p q : Prop} : ∀ {o : Option Ex}, Way A E H o p → (o = none → p → q) → Way A E H o q
  | none, k, h => h rfl k
  | some _, k, _ => k
theorem Way.same {A : XA} {E : XK} {H H1 : Hp} {p q : Prop} (s : Same H H1) (h : p → q) : ∀ {o : Option Ex}, Way A E H o p → Way A E H1 o q
  | none, k => h k
  | some _, k => Rz.same k s
def spPlI (C : Addr) (A : XA) (f : List Row → List Str → Int) : Sp := fun vs H Q E => ∃ (b t : Addr) (rows : List Row) (l : List Str), vs = [.ref b, .ref t] ∧ BedAt C H b rows ∧ ROk 8 rows ∧ Tq H t (l.map V.str) ∧ l.length ≤ 6000 ∧ Way A E H (due rows false l) (∀ H', Same H H' → Q (.int (f rows l)) H')
def spPlR (C : Addr) (A : XA) (f : List Row → List Str → Hp → Addr → Prop) : Sp := fun vs H Q E => ∃ (b t : Addr) (rows : List Row) (l : List Str), vs = [.ref b, .ref t] ∧ BedAt C H b rows ∧ ROk 8 rows ∧ Tq H t (l.map V.str) ∧ l.length ≤ 6000 ∧ Way A E H (due rows false l) (∀ H' q, Same H H' → f rows l H' q → Q (.ref q) H')
def spPlZ (C : Addr) (A : XA) (f : List Row → List Str → Hp → Addr → Prop) : Sp := fun vs H Q E => ∃ (b t : Addr) (rows : List Row) (l : List Str), vs = [.ref b, .ref t] ∧ BedAt C H b rows ∧ ROk 8 rows ∧ Tz H t (l.map V.str) ∧ l.length ≤ 6000 ∧ Way A E H (due rows false l) (∀ H' q, Same H H' → f rows l H' q → Q (.ref q) H')
def spLevels (C : Addr) : Sp := fun vs H Q _ => ∃ (b t : Addr) (rows : List Row) (l : List Str), vs = [.ref b, .ref t] ∧ BedAt C H b rows ∧ ROk 8 rows ∧ Tq H t (l.map V.str) ∧ WfOk rows l ∧ ∀ H', Same H H' → Q (.int ((Mth.tall (wR rows) l l.length : Nat) : Int)) H'
def KeyAt (rows : List Row) (l : List Str) (H : Hp) (q : Addr) : Prop := ∃ u ks, H q = some (.tup [.int ((l.length : Nat) : Int), .ref u]) ∧ H u = some (.tup (ks.map V.int)) ∧ RanksOf (rows.map (·.1)) l ks
def CntAt (rows : List Row) (l : List Str) (H : Hp) (q : Addr) : Prop := H q = some (.tup ((rows.map fun r => ((l.count r.1 : Nat) : Int)).map V.int))
def PthsAt (rows : List Row) (l : List Str) (H : Hp) (q : Addr) : Prop := ∃ ts, H q = some (.tup (ts.map V.ref)) ∧ TsAt pV H ts ((List.range l.length).map (Mth.pth (wR rows) l))
def BrsAt (rows : List Row) (l : List Str) (H : Hp) (q : Addr) : Prop := ∃ ts, H q = some (.tup (ts.map V.ref)) ∧ TsAt sV H ts (Mth.brs (wR rows) l 0 (Mth.wd (wR rows) l 0))
section
variable {P : Program} {w : World} {K : PySem.W.Frag} {mg : Str → Option Value} {base : Heap} {C CT : Addr} {A : XA}
end
end Sh
end
section
set_option Elab.async false
set_option linter.all false
set_option maxRecDepth 100000
set_option maxHeartbeats 2000000
set_option autoImplicit false
namespace Mth
/-- where a path of whole numbers leads from a place -/
def walkI {α : Type} (w : α → Nat) (l : List α) : Nat → List Int → Option Nat
  | p, [] => some p
  | p, c :: cs => if 0 ≤ c ∧ c < (wd w l p : Int) then walkI w l (nxs w l (p + 1) c.toNat) cs else none
end Mth
namespace Sh
open PySem PySem.Spec PyProof.Rows L2
open C8 (pss_cut tCut)
open Evl (ixN_nat)
theorem Def0.star {P : Program} {w : World} {K : PySem.W.Frag} {mg : Str → Option Value} {base : Heap} {k : Nat} {x : Str} {sp : Sp} {st : Stmt} {N ps : List Str} {pv : Str} (D : Def0 K mg x st) (S : FnScope N (ps ++ [pv]) (defScope st))
    (hb : ∀ (kV doc pm : Value) (an : Option Addr) (cdv ct : Value) (us rest : List Value), us.length = ps.length → bindArgs (PySem.W.fnOf x x (defArgs st) (defBody st) (defScope st) .none kV doc pm an cdv ct) ⟨us ++ rest, []⟩ = (newTuple rest >>= fun t => pure (ps.zip us ++ [(pv, t)])))
    (hbody : ∀ (f : Addr) (cdv : Value) (A : Around) (outer : List Env) (s : Shared) (H : Hp) (vs : List V) (Q : VK) (E : XK), Room k (A.deeper (envOfC x (defScope st) s.heap.objs.size f cdv)) → sp vs H Q E →
      ∃ t, PSs (cxOf (L2.CX P w) P w K mg base N x (defScope st) f cdv A outer s H E) (defBody st) t ∧ t { nx := fun _ H' => Q .non H', rt := Q } (start N vs) H) :
    DefOk P w K mg base (L2.CX P w) (k + 1) x (fun vs H Q E => ∃ ws rest, vs = ws ++ rest ∧ ws.length = ps.length ∧ rest.length ≤ sizeLine ∧ ∀ p, H p = Option.none → sp (ws ++ [V.ref p]) (upd H p (.tup rest)) Q E) := by
  obtain ⟨f, fd, hm, F⟩ := D
  obtain ⟨oc, od, dV, kV, doc, pm, an, cdv, ct, osl, rfl, lk, hcd, hdv, _⟩ := F.ex
  have hd : dV = .none := by
    rcases hdv with ⟨_, h⟩ | h
    · exact h
    · exact absurd rfl h.1
  subst hd
  exact ⟨f, hm, F.kp, StX.fn_star lk hcd S StX.cxUp (hb kV doc pm an cdv ct) fun A outer s H vs Q E hr hsp => hbody f cdv A outer s H vs Q E hr hsp⟩
theorem slA_lo {K : PySem.W.Frag} {H : Hp} {a : Addr} {xs : List V} {Q : VK} {j : Nat} (ha : Tq H a xs) (hj : j ≤ xs.length) (k : ∀ r H', Same H H' → Tq H' r (xs.take j) → Q (.ref r) H') : rSlA K (.ref a) none (some (j : Int)) H Q := by
  have e2 : HT.sIx xs.length xs.length (some (j : Int)) = j := by rw [HT.sIx_nat]; omega
  have e1 : HT.sIx xs.length 0 none = 0 := rfl
  refine ⟨a, xs, rfl, ha.sq, fun h => ?_, fun _ p hp => ?_⟩
  · rw [e2] at h
    refine k a H (Same.refl H) ?_
    rw [h.2, List.take_length]
    exact ha
  · have hc : cutV xs none (some (j : Int)) = xs.take j := by
      unfold cutV
      rw [e1, e2, List.drop_zero, Nat.sub_zero]
    rw [hc]
    exact k p _ ((Same.refl H).upd_new hp) (.of upd_same)
theorem slA_hi {K : PySem.W.Frag} {H : Hp} {a : Addr} {xs : List V} {Q : VK} {i : Nat} (ha : Tq H a xs) (hi : i ≤ xs.length) (k : ∀ r H', Same H H' → Tq H' r (xs.drop i) → Q (.ref r) H') : rSlA K (.ref a) (some (i : Int)) none H Q := by
  have e1 : HT.sIx xs.length 0 (some (i : Int)) = i := by rw [HT.sIx_nat]; omega
  have e2 : HT.sIx xs.length xs.length none = xs.length := rfl
  refine ⟨a, xs, rfl, ha.sq, fun h => ?_, fun _ p hp => ?_⟩
  · rw [e1] at h
    refine k a H (Same.refl H) ?_
    rw [h.1, List.drop_zero]
    exact ha
  · have hc : cutV xs (some (i : Int)) none = xs.drop i := by
      unfold cutV
      rw [e1, e2]
      exact List.take_of_length_le (by rw [List.length_drop]; omega)
    rw [hc]
    exact k p _ ((Same.refl H).upd_new hp) (.of upd_same)
theorem flat_le : ∀ {ls : List (List Str)} {m n : Nat}, (∀ l ∈ ls, l.length ≤ m) → ls.length ≤ n → ls.flatten.length ≤ m * n
  | [], m, n, _, _ => Nat.zero_le _
  | l :: ls, m, n, h, hn => by
    obtain ⟨k, rfl⟩ : ∃ k, n = k + 1 := ⟨n - 1, by rw [List.length_cons] at hn; omega⟩
    have h1 := h l List.mem_cons_self
    have h2 := flat_le (ls := ls) (n := k) (fun l hl => h l (List.mem_cons_of_mem _ hl)) (by rw [List.length_cons] at hn; omega)
    rw [List.flatten_cons, List.length_append, Nat.mul_succ]
    omega
theorem lk_branches (r k w rk : Addr) : (bedF r k w rk).lookup ("branches" : Str) = none := by
  have h : (("branches" : Str) == "rows") = false := by decide +kernel
  have h2 : (("branches" : Str) == "kinds") = false := by decide +kernel
  have h3 : (("branches" : Str) == "widths") = false := by decide +kernel
  have h4 : (("branches" : Str) == "ranks") = false := by decide +kernel
  simp [bedF, List.lookup, h, h2, h3, h4]
def iV (zs : List Int) : List V := zs.map V.int
def spSpan (C : Addr) (A : XA) : Sp := fun vs H Q E => ∃ (b t a : Addr) (rows : List Row) (l : List Str) (zs : List Int), vs = [.ref b, .ref t, .ref a] ∧ BedAt C H b rows ∧ ROk 8 rows ∧ Tq H t (l.map V.str) ∧ PlantOk rows l ∧ Tq H a (iV zs) ∧
  (∀ q, Mth.walkI (wR rows) l 0 zs = some q → q < l.length → ∀ H' r, Same H H' → Tq H' r [.int ((q : Nat) : Int), .int ((Mth.nxs (wR rows) l q 1 : Nat) : Int)] → Q (.ref r) H') ∧
  (Mth.walkI (wR rows) l 0 zs = none → Rz A E H (.path a))
def spBranch (C : Addr) (A : XA) : Sp := fun vs H Q E => ∃ (b t a : Addr) (rows : List Row) (l : List Str) (zs : List Int), vs = [.ref b, .ref t, .ref a] ∧ BedAt C H b rows ∧ ROk 8 rows ∧ Tq H t (l.map V.str) ∧ l.length ≤ 6000 ∧ Tq H a (iV zs) ∧
  Way A E H (due rows false l) ((∀ q, Mth.walkI (wR rows) l 0 zs = some q → q < l.length → ∀ H' r, Same H H' → Tq H' r (sV (Mth.cut (wR rows) l q)) → Q (.ref r) H') ∧ (Mth.walkI (wR rows) l 0 zs = none → Rz A E H (.path a)))
def put (w : Str → Nat) (l : List Str) (q : Nat) (o : List Str) : List Str := l.take q ++ o ++ l.drop (Mth.nxs w l q 1)
def spReplaced (C : Addr) (A : XA) : Sp := fun vs H Q E => ∃ (b t a u : Addr) (rows : List Row) (l o : List Str) (zs : List Int), vs = [.ref b, .ref t, .ref a, .ref u] ∧ BedAt C H b rows ∧ ROk 8 rows ∧ Tq H t (l.map V.str) ∧ l.length ≤ 6000 ∧ Tq H a (iV zs) ∧ Tq H u (o.map V.str) ∧ o.length ≤ 6000 ∧
  Way A E H (due rows false l) ((Mth.walkI (wR rows) l 0 zs = none → Rz A E H (.path a)) ∧ ∀ q, Mth.walkI (wR rows) l 0 zs = some q → q < l.length →
    Way A E H (due rows false o) (((put (wR rows) l q o).length ≤ 2000 → ∀ H' r, Same H H' → Tq H' r (sV (put (wR rows) l q o)) → Q (.ref r) H') ∧ (2000 < (put (wR rows) l q o).length → Rz A E H .many)))
def spBr (C : Addr) (A : XA) : Sp := fun vs H Q E => ∃ (b : Addr) (z : Str) (rows : List Row), vs = [.ref b, .str z] ∧ BedAt C H b rows ∧ ROk 8 rows ∧ Kin z ∧ (nmO rows z < 0 → Rz A E H (.kind z)) ∧ (0 ≤ nmO rows z → Q (.int ((wR rows z : Nat) : Int)) H)
/-- the first bad one -/
def fbad (rows : List Row) (hole : Bool) (ls : List (List Str)) : Option Ex := ls.findSome? (due rows hole)
def pdue (rows : List Row) (z : Str) (ls : List (List Str)) : Option Ex := if nmO rows z < 0 then some (.kind z) else if wR rows z ≠ ls.length then some (.wrong (wR rows z) ls.length) else match fbad rows false ls with
  | some x => some x
  | none => if 2000 < (z :: ls.flatten).length then some .many else none
def spPlanted (C : Addr) (A : XA) : Sp := fun vs H Q E => ∃ (b p : Addr) (z : Str) (rows : List Row) (ts : List Addr) (ls : List (List Str)), vs = [.ref b, .str z, .ref p] ∧ BedAt C H b rows ∧ ROk 8 rows ∧ Kin z ∧ Tq H p (ts.map V.ref) ∧ TsAt sV H ts ls ∧ (∀ l ∈ ls, l.length ≤ 6000) ∧ ls.length ≤ 20 ∧
  Way A E H (pdue rows z ls) (∀ H' r, Same H H' → Tq H' r (sV (z :: ls.flatten)) → Q (.ref r) H')
def spStar (n : Nat) (sp : Sp) : Sp := fun vs H Q E => ∃ ws rest, vs = ws ++ rest ∧ ws.length = n ∧ rest.length ≤ sizeLine ∧ ∀ p, H p = Option.none → sp (ws ++ [V.ref p]) (upd H p (.tup rest)) Q E
def BrOk (P : Program) (w : World) (K : PySem.W.Frag) (mg : Str → Option Value) (base : Heap) (C : Addr) (A : XA) : Prop := ∃ f, Meth K C "branches" f ∧ FnR P w K mg base (L2.CX P w) 2 f (spBr C A)
abbrev s_branches : Stmt := inClass (top 34) 4
abbrev N_branches : List Str := ["self", "kind"]
theorem sc_branches : FnScope N_branches ["self", "kind"] (defScope s_branches) := ⟨rfl, rfl, rfl, by decide +kernel, rfl, by decide +kernel, by decide +kernel⟩
section
variable {P : Program} {w : World} {K : PySem.W.Frag} {mg : Str → Option Value} {base : Heap} {C CN CT : Addr} {A : XA}
theorem ok_branches (x : XS P w K mg A) (B : BedT K C) {y : Str} {f : Addr} {fd : FuncData} (F : FunD K "branches" "Bed.branches" (defArgs s_branches) (defBody s_branches) (defScope s_branches) [] [] f fd) (M : Meth K C "branches" f) : BrOk P w K mg base C A := by
  have x_UnknownKind := x.xU
  have G : FnOk P w K mg base (L2.CX P w) 2 f fd ["self", "kind"] (spBr C A) := F.ok sc_branches (fun vs H Q E h => by obtain ⟨b, z, rows, rfl, _⟩ := h; rfl) fun cdv A outer s H vs Q E hr h => by
    obtain ⟨b, z, rows, rfl, hB, R, hz, k1, k2⟩ := h
    have hu := hu_of hr
    obtain ⟨dx, r, kk, ww, rk, ts, h1, h2, h3, h4, h5, h6⟩ := hB
    refine ⟨_, (pss_cons (ps_if (pt_cmp (pc_dnotin hu (pv 1) (pe_fld (pv 0) rfl)))
        (pss_one (ps_raiseSup rfl x_UnknownKind hr (takes_of rfl rfl rfl rfl) (pa_cons (pv 1) pa_nil)))
        pss_nil)
      (pss_one (ps_ret (pe_dget hu (pe_fld (pv 0) rfl) (pv 1) (fun _ _ => rfl))))), ?_⟩
    refine ⟨_, rfl, _, rfl, b, C, dx, _, _, rfl, h1, B.cl, B.nW, lk_widths _ _ _ _, ww, _, rfl, DGet.k (k := .inr z) h5, _, rfl, ?_⟩
    rcases nm_case R z with q | q
    · rw [q.2.2.1]
      refine ifp (by simp) ?_
      exact ⟨_, rfl, ⟨z, rfl, hz⟩, rfl, fun d hd => k1 (by omega) _ d (Same.refl H) hd⟩
    · rw [q.2.2.1]
      refine ifn (by simp) ?_
      exact ⟨_, rfl, b, C, dx, _, _, rfl, h1, B.cl, B.nW, lk_widths _ _ _ _, _, rfl, ww, _, rfl, (by rw [← q.2.2.1]; exact DGet.k (k := .inr z) h5), k2 (by omega)⟩
  refine ⟨f, M, fun A' outer s H us vs Q E hr e0 r hs => G.raw (F.bindsN fun _ _ _ _ _ _ us hl => match us, hl with | [_, _], _ => rfl) .nil A' outer s H us vs Q E hr e0 r (by show spBr C A (vs ++ []) H Q E; rw [List.append_nil]; exact hs)⟩
end
end Sh
end
section
set_option Elab.async false
set_option linter.all false
set_option autoImplicit false
namespace Mth
variable {α : Type} [DecidableEq α]
/-! Stumps as preorder lists: what stands at the holes, the holes filled. -/
section
variable (w : α → Nat) (hole : α)
/-- what stands in m at the holes of the rest of a stump, from place p on -/
def prt (m : List α) : List α → Nat → List (List α) → Option (List (List α))
  | [], _, acc => some acc
  | z :: r, p, acc => if z = hole then prt m r (nxs w m p 1) (acc ++ [cut w m p]) else if m[p]? = some z then prt m r (p + 1) acc else none
theorem prt_len {m : List α} : ∀ {l : List α} {p : Nat} {acc ps : List (List α)}, prt w hole m l p acc = some ps → ps.length = acc.length + l.count hole
  | [], _, acc, ps, h => by cases h; rfl
  | z :: r, p, acc, ps, h => by
    unfold prt at h
    rw [List.count_cons]
    split at h
    · rename_i e
      have q := prt_len h
      rw [List.length_append, List.length_singleton] at q
      rw [q, if_pos (beq_iff_eq.mpr e)]
      omega
    · rename_i e
      split at h
      · have q := prt_len h
        rw [q, if_neg (fun x => e (beq_iff_eq.mp x))]
        rfl
      · cases h
end
/-- the first n entries of a stump, its holes filled -/
def fil (hole : α) (ls : List (List α)) (l : List α) : Nat → List α
  | 0 => []
  | i + 1 => fil hole ls l i ++ match l[i]? with
    | some z => if z = hole then ls.getD ((l.take i).count hole) [] else [z]
    | none => []
theorem count_take {hole : α} {l : List α} {i : Nat} (h : i < l.length) : (l.take (i + 1)).count hole = (l.take i).count hole + if l[i] = hole then 1 else 0 := by
  rw [List.take_add_one, List.getElem?_eq_getElem h, List.count_append, Option.toList_some, List.count_singleton]
  by_cases e : l[i] = hole <;> simp [e]
theorem take_flat {β : Type} {ls : List (List β)} {j : Nat} (h : j < ls.length) : (ls.take (j + 1)).flatten.length = (ls.take j).flatten.length + (ls.getD j []).length := by
  rw [List.take_add_one, List.getElem?_eq_getElem h, List.flatten_append, List.length_append]
  simp [List.getD, h]
theorem fil_len (hole : α) (ls : List (List α)) (l : List α) (hc : l.count hole ≤ ls.length) : ∀ n, n ≤ l.length → (fil hole ls l n).length + (l.take n).count hole = n + (ls.take ((l.take n).count hole)).flatten.length
  | 0, _ => by simp [fil]
  | i + 1, h => by
    have ih := fil_len hole ls l hc i (by omega)
    have hi : i < l.length := h
    have hle : (l.take (i + 1)).count hole ≤ l.count hole := List.Sublist.count_le _ (List.take_sublist _ _)
    unfold fil
    rw [List.getElem?_eq_getElem hi, count_take hi, List.length_append]
    rw [count_take hi] at hle
    by_cases e : l[i] = hole
    · rw [if_pos e] at hle
      simp only [e, eq_self_iff_true, if_true]
      rw [take_flat (by omega)]
      omega
    · simp only [e, if_false, List.length_singleton, Nat.add_zero]
      omega
/-- the places of the holes -/
def hps (hole : α) (l : List α) : List Nat := (List.range l.length).filter fun i => decide (l[i]? = some hole)
theorem hps_take (hole : α) (l : List α) : ∀ n, n ≤ l.length → (((List.range n).filter fun i => decide (l[i]? = some hole)).length) = (l.take n).count hole
  | 0, _ => by simp
  | i + 1, h => by
    have hi : i < l.length := h
    rw [List.range_succ, List.filter_append, List.length_append, hps_take hole l i (by omega), count_take hi, List.filter_cons, List.filter_nil, List.getElem?_eq_getElem hi]
    by_cases e : l[i] = hole <;> simp [e]
theorem hps_len (hole : α) (l : List α) : (hps hole l).length = l.count hole := by
  have h := hps_take hole l l.length (Nat.le_refl _)
  rw [List.take_length] at h
  exact h
end Mth
end
section
set_option Elab.async false
set_option linter.all false
set_option maxRecDepth 100000
set_option maxHeartbeats 2000000
set_option autoImplicit false
/-! zip(l, t): a list beside a tuple. -/
namespace L2
open PySem PySem.Spec PyProof.Rows
def ItzM (K : PySem.W.Frag) (a b : Addr) : It where
  go := fun i H => ∃ (xs ys : List V) (x y : V), SqL K H a xs ∧ SqT K H b ys ∧ xs[i]? = some x ∧ ys[i]? = some y
  yld := fun i H v H' => ∃ T x y, v = .ref T ∧ H T = none ∧ H' = upd H T (.tup [x, y]) ∧ (∀ xs, SqL K H a xs → xs[i]? = some x) ∧ ∀ ys, SqT K H b ys → ys[i]? = some y
  stop := fun i H => ∃ xs ys : List V, SqL K H a xs ∧ SqT K H b ys ∧ xs.length = ys.length ∧ xs.length = i
/-- how the five cells of it lie -/
structure ZmApart (z TI TO i1 i2 a b : Addr) : Prop where
  s : ZipSep2 z TI TO i1 i2 [i1, a] [i2, b]
  a1 : a ≠ i1
  b2 : b ≠ i2
def zmCells (z TI TO i1 i2 : Addr) : List Addr := [z, TI, TO, i1, i2]
theorem zm_out {z TI TO i1 i2 c : Addr} (h : c ∉ zmCells z TI TO i1 i2) : c ≠ z ∧ c ≠ TO ∧ c ≠ i1 ∧ c ≠ i2 := by
  unfold zmCells at h
  simp only [List.mem_cons, not_or] at h
  exact ⟨h.1, h.2.2.1, h.2.2.2.1, h.2.2.2.2.1⟩
def zmAt (z TI TO i1 i2 a b : Addr) (i : Nat) (h : Heap) : Prop :=
  IsZip h z TI TO .none ∧ IsTupOf2 h TI (.ref i1) (.ref i2) ∧ (∃ x y, IsTupOf2 h TO x y) ∧ h.IsListIter i1 a i ∧ h.IsTupleIter i2 b i
theorem turn_zipM {P : Program} {w : World} {K : PySem.W.Frag} {elts : List Expr} {kk : Nat} {tpos : Pos} {a b z TI TO i1 i2 : Addr} (D : ZmApart z TI TO i1 i2 a b) :
    Turn P w K (.Tuple elts kk tpos) (ItzM K a b) (zmCells z TI TO i1 i2) z (zmAt z TI TO i1 i2 a b) := by
  have mz : z ∈ zmCells z TI TO i1 i2 := by simp [zmCells]
  have mI : TI ∈ zmCells z TI TO i1 i2 := by simp [zmCells]
  have mO : TO ∈ zmCells z TI TO i1 i2 := by simp [zmCells]
  have m1 : i1 ∈ zmCells z TI TO i1 i2 := by simp [zmCells]
  have m2 : i2 ∈ zmCells z TI TO i1 i2 := by simp [zmCells]
  refine ⟨mz, ?_, ?_, ?_, ?_, ?_⟩
  · rintro i h ⟨hz, hI, ⟨x, y, hO⟩, ⟨o1, e1, _, d1⟩, ⟨o2, e2, _, d2⟩⟩ c hc
    simp only [zmCells, List.mem_cons, List.not_mem_nil, or_false] at hc
    rcases hc with rfl | rfl | rfl | rfl | rfl
    · exact ⟨_, hz, fun v q => nomatch q⟩
    · exact ⟨_, hI, fun v q => nomatch q⟩
    · exact ⟨_, hO, fun v q => nomatch q⟩
    · exact ⟨o1, e1, fun v q => by rw [d1] at q; cases q⟩
    · exact ⟨o2, e2, fun v q => by rw [d2] at q; cases q⟩
  · rintro i h h' ⟨hz, hI, ⟨x, y, hO⟩, h1, h2⟩ k
    exact ⟨k z mz _ hz, k TI mI _ hI, ⟨x, y, k TO mO _ hO⟩, h1.at fun o q => k i1 m1 o q, h2.at fun o q => k i2 m2 o q⟩
  · intro X eP ew eK calm i pins s σ H E I own st go
    subst eP ew eK
    obtain ⟨hz, hI, ⟨x0, y0, hO⟩, h1, h2⟩ := st
    obtain ⟨xs, ys, x, y, qa, qb, gx, gy⟩ := go
    obtain ⟨its, ra, pa, _⟩ := I.list qa
    obtain ⟨jts, rb, pb, _⟩ := I.tuple qb
    obtain ⟨u, gu, ru⟩ := ra.get gx
    obtain ⟨v, gv, rv⟩ := rb.get gy
    have lt1 : i < its.toArray.size := by simpa using (List.getElem?_eq_some_iff.mp gu).1
    have lt2 : i < jts.toArray.size := by simpa using (List.getElem?_eq_some_iff.mp gv).1
    have zl : z < s.heap.objs.size := Heap.lt_size hz
    refine wpAny_pyNext_zipD2_item D.s (Draws.list (prog := X.prog) (w := X.w) (A := X.A.in1) (I.ok.hd calm) i1 a D.a1 its.toArray) (Draws.tuple (prog := X.prog) (w := X.w) (A := X.A.in1) (I.ok.hd calm) i2 b D.b2 jts.toArray) hz hI hO ⟨h1, pa.isList⟩ ⟨h2, pb⟩ lt1 lt2 fun x1 x2 h' tk e1 e2 hz' hO' t1 t2 hT hsz keep => ?_
    have f1 : x1 = u := by
      have q : its.toArray[i]? = some x1 := e1
      have q2 : its[i]? = some x1 := by simpa using q
      exact Option.some.inj (q2.symm.trans gu)
    have f2 : x2 = v := by
      have q : jts.toArray[i]? = some x2 := e2
      have q2 : jts[i]? = some x2 := by simpa using q
      exact Option.some.inj (q2.symm.trans gv)
    subst f1 f2
    refine ⟨_, rfl, wpAny_letOwnedTupleGo_zip (s := { s with heap := h', toks := tk }) hz' fun h'' hz2 sb => ?_⟩
    have hT2 : h''.get? s.heap.objs.size = some { cls := .type "tuple", data := .seq #[x1, x2] } := (sb.2 _ (Nat.ne_of_gt zl)).trans hT
    have fr : H s.heap.objs.size = none := I.hok.fresh (Nat.le_refl _)
    have I1 : Inv X pins σ (upd H s.heap.objs.size (.tup [x, y])) { s with heap := h'', toks := tk } :=
      I.turnedNew (ch := zmCells z TI TO i1 i2) (fun c o hb q => (sb.2 c (zm_out hb).1).trans (keep c o (zm_out hb).1 (zm_out hb).2.1 (zm_out hb).2.2.1 (zm_out hb).2.2.2 q)) own (Nat.le_refl _)
        ⟨by show 2 ≤ sizeLine; decide, [x1, x2], .cons ru (.cons rv .nil), ⟨_, hT2, rfl, _, rfl⟩⟩
    refine ⟨.ref s.heap.objs.size, _, I1, rfl, ⟨_, x, y, rfl, fr, rfl, fun l hl => by rw [I.list_inj hl qa]; exact gx, fun l hl => by rw [I.tuple_inj hl qb]; exact gy⟩, ⟨hz2, ?_, ⟨x1, x2, ?_⟩, ?_, ?_⟩, fun c hcm => ?_⟩
    · exact (sb.2 _ D.s.TIz).trans (keep _ _ D.s.TIz D.s.TITO D.s.TIi1 D.s.TIi2 hI)
    · exact (sb.2 _ D.s.TOz).trans hO'
    · exact t1.1.at fun o q => (sb.2 _ (Ne.symm D.s.zi1)).trans q
    · exact t2.1.at fun o q => (sb.2 _ (Ne.symm D.s.zi2)).trans q
    · have lt : c < s.heap.objs.size := by
        simp only [zmCells, List.mem_cons, List.not_mem_nil, or_false] at hcm
        rcases hcm with rfl | rfl | rfl | rfl | rfl
        · exact zl
        · exact Heap.lt_size hI
        · exact Heap.lt_size hO
        · obtain ⟨_, q, _⟩ := h1; exact Heap.lt_size q
        · obtain ⟨_, q, _⟩ := h2; exact Heap.lt_size q
      rw [upd_ne (Nat.ne_of_lt lt)]
      exact (own c hcm).1
  · intro X eP ew eK calm i pins s σ H E I own st stop
    subst eP ew eK
    obtain ⟨hz, hI, ⟨x0, y0, hO⟩, h1, h2⟩ := st
    obtain ⟨xs, ys, qa, qb, el, ei⟩ := stop
    obtain ⟨its, ra, pa, _⟩ := I.list qa
    obtain ⟨jts, rb, pb, _⟩ := I.tuple qb
    have l1 := ra.length
    have l2 := rb.length
    refine wpAny_pyNext_zipD2_end D.s (Draws.list (prog := X.prog) (w := X.w) (A := X.A.in1) (I.ok.hd calm) i1 a D.a1 its.toArray) (Draws.tuple (prog := X.prog) (w := X.w) (A := X.A.in1) (I.ok.hd calm) i2 b D.b2 jts.toArray) hz hI hO ⟨h1, pa.isList⟩ ⟨h2, pb⟩ (by simp; omega) (by simp; omega) (.inl (by simp; omega)) fun h' tk keep => ?_
    exact ⟨rfl, I.turnedL (t' := tk) (ch := zmCells z TI TO i1 i2) (fun c o hb q => keep c o (zm_out hb).1 (zm_out hb).2.1 (zm_out hb).2.2.1 (zm_out hb).2.2.2 q) own⟩
  · intro A i s Q E st h
    exact wpAny_pyIter_zip st.1 h
def iZipM (K : PySem.W.Frag) (ta : TA) : TI := fun σ H R => ta σ H fun vs H1 => ∃ a b xs ys, vs = [.ref a, .ref b] ∧ SqL K H1 a xs ∧ SqT K H1 b ys ∧ R (ItzM K a b) H1
theorem pi_zipM {X : Cx} {e e2 : Expr} {ta : TA} {p pos tpos : Pos} {elts : List Expr} {kk : Nat} (hg : Gl X "zip") (hm : X.mg "zip" = none) (ha : PA X [e, e2] ta)
    (hs : starEach [e, e2] X.env = (false, eval e X.env) :: starEach [e2] X.env := by rfl) (hpl : (backTo pos (starEach [e2] X.env)).any (·.1) = false := by rfl) :
    PI X (.Tuple elts kk tpos) (.Call (.Name "zip" p) [e, e2] [] pos) (iZipM X.K ta) := by
  refine ⟨fun pins s σ H R I h => ?_⟩
  refine Call_ (ld_blt I hg hm boot_zip (callWith_type1 (thn (ha.run pos pins s σ H _ I h) fun us s1 ⟨vs, H1, I1, r1, q1⟩ => ?_) hs hpl))
  obtain ⟨a, b, xs, ys, ex, qa, qb, q⟩ := q1
  subst ex
  obtain ⟨u, u2, rfl, ru, ru2⟩ := vals2 r1
  cases ru
  cases ru2
  obtain ⟨its, ra, pa, _⟩ := I1.list qa
  obtain ⟨jts, rb, pb, _⟩ := I1.tuple qb
  have la : a < s1.heap.objs.size := pa.lt
  have lb : b < s1.heap.objs.size := by obtain ⟨_, z, _⟩ := id pb; exact Heap.lt_size z
  generalize hN : s1.heap.objs.size = N at la lb
  have la' : @LT.lt Nat _ a N := la
  have lb' : @LT.lt Nat _ b N := lb
  refine zip_begins2 (begins_list a its.toArray) (begins_tuple b jts.toArray) pa.isList pb fun h' hz hI hO g1 g2 hsz keep => wpAny_pyIter_zip hz ?_
  rw [hN] at hz hI hO g1 g2
  rw [hN]
  have D : ZmApart (N + 4) (N + 2) (N + 3) N (N + 1) a b := by
    refine ⟨?_, Nat.ne_of_lt la, Nat.ne_of_lt (Nat.lt_succ_of_lt lb)⟩
    constructor <;> first
      | (intro q; have q' : @Eq Nat _ _ := q; omega)
      | exact List.mem_cons_self
      | (intro q; rcases List.mem_cons.mp q with q | q
         · have q' : @Eq Nat _ _ := q; omega
         · have q' : @Eq Nat _ _ := List.mem_singleton.mp q; omega)
  refine ⟨N + 4, zmCells (N + 4) (N + 2) (N + 3) N (N + 1), _, _, H1, rfl, I1.kept (t' := s1.toks) keep, turn_zipM D, ⟨hz, hI, ⟨_, _, hO⟩, ⟨_, g1, rfl, rfl⟩, ⟨_, g2, rfl, rfl⟩⟩, fun c hc => ?_, q⟩
  have hle : s1.heap.objs.size ≤ c := by
    rw [hN]
    simp only [zmCells, List.mem_cons, List.not_mem_nil, or_false] at hc
    rcases hc with rfl | rfl | rfl | rfl | rfl
    · exact Nat.le_add_right _ _
    · exact Nat.le_add_right _ _
    · exact Nat.le_add_right _ _
    · exact Nat.le_refl _
    · exact Nat.le_add_right _ _
  exact I1.fpOk hle (I1.hok.fresh hle)
theorem walk_zipM {K : PySem.W.Frag} {a b : Addr} {xs ys : List V} {n : Nat} (h1 : xs.length = n) (h2 : ys.length = n) : Walk (ItzM K a b) n (fun H => SqL K H a xs ∧ SqT K H b ys) (YPair (fun i => xs[i]?) (fun i => ys[i]?)) := by
  refine ⟨fun i _ hi q => ⟨xs, ys, xs[i], ys[i], q.1, q.2, by simp [show i < xs.length by omega], by simp [show i < ys.length by omega]⟩, fun _ q => ⟨xs, ys, q.1, q.2, by omega, h1⟩, fun i H v H' _ q y => ?_⟩
  obtain ⟨T, x, z, e1, e2, e3, e4, e5⟩ := y
  exact ⟨T, x, z, e1, e2, e3, e4 xs q.1, e5 ys q.2⟩
end L2
end
section
set_option Elab.async false
set_option linter.all false
set_option maxRecDepth 100000
set_option maxHeartbeats 2000000
set_option autoImplicit false
namespace Sh
open PySem PySem.Spec PyProof.Rows L2
open C8 (pss_cut tCut)
open Evl (ixN_nat)
abbrev fill (ls : List (List Str)) (l : List Str) : List Str := Mth.fil ("*" : Str) ls l l.length
def spChks (C : Addr) (A : XA) : Sp := fun vs H Q E => ∃ (b s : Addr) (rows : List Row) (ts : List Addr) (ls : List (List Str)), vs = [.ref b, .ref s] ∧ BedAt C H b rows ∧ ROk 8 rows ∧ Tq H s (ts.map V.ref) ∧ TsAt sV H ts ls ∧ (∀ l ∈ ls, l.length ≤ 6000) ∧ Way A E H (fbad rows true ls) (∀ H', Same H H' → Q .non H')
def RanksS (ns l : List Str) (ks : List Int) : Prop := ks.length = l.length ∧ ∀ (i : Nat) (z : Str), l[i]? = some z → (∃ j : Nat, ns[j]? = some z ∧ ks[i]? = some ((j : Nat) : Int)) ∨ (z = "*" ∧ ks[i]? = some ((ns.length : Nat) : Int))
theorem RanksS.snoc {ns l : List Str} {ks : List Int} {i : Nat} {z : Str} {k : Int} (x : RanksS ns (l.take i) ks) (h : l[i]? = some z) (hk : (∃ j : Nat, ns[j]? = some z ∧ k = ((j : Nat) : Int)) ∨ (z = "*" ∧ k = ((ns.length : Nat) : Int))) : RanksS ns (l.take (i + 1)) (ks ++ [k]) := by
  have hil := lt_of_get h
  have hx := x.1
  rw [List.length_take] at hx
  have hm : ks.length = i := by omega
  refine ⟨by rw [List.length_append, List.length_take, List.length_singleton]; omega, fun j y hj => ?_⟩
  rw [← take_snoc h] at hj
  by_cases e : j < i
  · rw [List.getElem?_append_left (by rw [List.length_take]; omega)] at hj
    rw [List.getElem?_append_left (by omega)]
    exact x.2 j y hj
  · have hj2 : j = i := by
      have q := lt_of_get hj
      rw [List.length_append, List.length_take, List.length_singleton] at q
      omega
    subst hj2
    rw [List.getElem?_append_right (by rw [List.length_take]; omega)] at hj
    rw [List.length_take, show j - min j l.length = 0 by omega] at hj
    cases hj
    rw [List.getElem?_append_right (by omega), hm, Nat.sub_self]
    rcases hk with ⟨n, a, b⟩ | ⟨a, b⟩
    · exact .inl ⟨n, a, by rw [b]; rfl⟩
    · exact .inr ⟨a, by rw [b]; rfl⟩
def SkeyAt (rows : List Row) (l : List Str) (H : Hp) (q : Addr) : Prop := ∃ u ks, H q = some (.tup [.int ((l.length : Nat) : Int), .ref u]) ∧ H u = some (.tup (ks.map V.int)) ∧ RanksS (rows.map (·.1)) l ks
def HolesAt (rows : List Row) (l : List Str) (H : Hp) (q : Addr) : Prop := ∃ ts, H q = some (.tup (ts.map V.ref)) ∧ TsAt pV H ts ((Mth.hps ("*" : Str) l).map (Mth.pth (wR rows) l))
def spStR (C : Addr) (A : XA) (f : List Row → List Str → Hp → Addr → Prop) : Sp := fun vs H Q E => ∃ (b t : Addr) (rows : List Row) (l : List Str), vs = [.ref b, .ref t] ∧ BedAt C H b rows ∧ ROk 8 rows ∧ Tq H t (l.map V.str) ∧ l.length ≤ 6000 ∧ Way A E H (due rows true l) (∀ H' q, Same H H' → f rows l H' q → Q (.ref q) H')
def spFillH (K : PySem.W.Frag) : Sp := fun vs H Q _ => ∃ (t p : Addr) (l : List Str) (ts : List Addr) (ls : List (List Str)), vs = [.ref t, .ref p] ∧ Tq H t (l.map V.str) ∧ l.length ≤ 2000 ∧ Tq H p (ts.map V.ref) ∧ TsAt sV H ts ls ∧ (∀ x ∈ ls, x.length ≤ 2000) ∧ ls.length ≤ 20 ∧ l.count ("*" : Str) = ls.length ∧
  ∀ H' q, Same H H' → H q = none → H' q = some (.lst (sV (fill ls l))) → Q (.ref q) H'
def fdue (rows : List Row) (l : List Str) (ls : List (List Str)) : Option Ex := match due rows true l with
  | some x => some x
  | none => if l.count ("*" : Str) ≠ ls.length then some (.wrong (l.count ("*" : Str)) ls.length) else match fbad rows true ls with
    | some x => some x
    | none => if 2000 < (fill ls l).length then some .many else none
def spFilled (C : Addr) (A : XA) : Sp := fun vs H Q E => ∃ (b t p : Addr) (rows : List Row) (l : List Str) (ts : List Addr) (ls : List (List Str)), vs = [.ref b, .ref t, .ref p] ∧ BedAt C H b rows ∧ ROk 8 rows ∧ Tz H t (l.map V.str) ∧ l.length ≤ 6000 ∧ Tq H p (ts.map V.ref) ∧ TsAt sV H ts ls ∧ (∀ l ∈ ls, l.length ≤ 6000) ∧ ls.length ≤ 20 ∧
  Way A E H (fdue rows l ls) (∀ H' r, Same H H' → Tq H' r (sV (fill ls l)) → Q (.ref r) H')
theorem fbad_none {rows : List Row} {hole : Bool} : ∀ {ls : List (List Str)}, fbad rows hole ls = none → ∀ l ∈ ls, due rows hole l = none
  | [], _, _, h => nomatch h
  | a :: r, h, l, hl => by
    unfold fbad at h
    rw [List.findSome?_cons] at h
    cases e : due rows hole a with
    | some x => rw [e] at h; cases h
    | none =>
      rw [e] at h
      rcases List.mem_cons.mp hl with q | q
      · rw [q]; exact e
      · exact fbad_none h l q
theorem fbad_at {rows : List Row} {hole : Bool} {ls : List (List Str)} {i : Nat} (hil : i < ls.length) : fbad rows hole (ls.drop i) = match due rows hole ls[i] with | some x => some x | none => fbad rows hole (ls.drop (i + 1)) := by
  rw [List.drop_eq_getElem_cons hil]
  unfold fbad
  rw [List.findSome?_cons]
  cases due rows hole ls[i] <;> rfl
section
variable {P : Program} {w : World} {K : PySem.W.Frag} {mg : Str → Option Value} {base : Heap} {C : Addr} {A : XA}
end
end Sh
end
section
set_option Elab.async false
set_option linter.all false
set_option maxRecDepth 100000
set_option maxHeartbeats 2000000
set_option autoImplicit false
namespace Sh
open PySem PySem.Spec PyProof.Rows L2
open C8 (pss_cut tCut)
open Evl (ixN_nat)
/-- what parts gives -/
def PartsV (H : Hp) (v : V) (o : Option (List (List Str))) : Prop := match o with
  | none => v = .non
  | some ps => ∃ q ts, v = .ref q ∧ H q = some (.tup (ts.map V.ref)) ∧ TsAt sV H ts ps
abbrev parts (rows : List Row) (l m : List Str) : Option (List (List Str)) := Mth.prt (wR rows) ("*" : Str) m l 0 []
def spPartsIn (C : Addr) : Sp := fun vs H Q _ => ∃ (b s t : Addr) (rows : List Row) (l m : List Str), vs = [.ref b, .ref s, .ref t] ∧ BedAt C H b rows ∧ ROk 8 rows ∧ Tq H s (l.map V.str) ∧ StumpOk rows l ∧ Tq H t (m.map V.str) ∧ StumpOk rows m ∧ ∀ H' v, Same H H' → PartsV H' v (parts rows l m) → Q v H'
def spPartsFrom : Sp := fun vs H Q _ => ∃ (s t e : Addr) (p : Nat) (rows : List Row) (l m : List Str), vs = [.ref s, .ref t, .ref e, .int (p : Nat)] ∧ ROk 8 rows ∧ Tq H s (l.map V.str) ∧ StumpOk rows l ∧ Tq H t (m.map V.str) ∧ WfOk rows m ∧ p < m.length ∧ EndsAt H e rows m ∧ ∀ H' v, Same H H' → PartsV H' v (Mth.prt (wR rows) ("*" : Str) m l p []) → Q v H'
/-- two stumps, both checked -/
def spSt2 (C : Addr) (A : XA) (f : List Row → List Str → List Str → VK → Hp → Prop) : Sp := fun vs H Q E => ∃ (b s t : Addr) (rows : List Row) (l m : List Str), vs = [.ref b, .ref s, .ref t] ∧ BedAt C H b rows ∧ ROk 8 rows ∧ Tq H s (l.map V.str) ∧ l.length ≤ 6000 ∧ Tq H t (m.map V.str) ∧ m.length ≤ 6000 ∧
  Way A E H (fbad rows true [l, m]) (f rows l m Q H)
def fParts (rows : List Row) (l m : List Str) (Q : VK) (H : Hp) : Prop := ∀ H' v, Same H H' → PartsV H' v (parts rows l m) → Q v H'
def fBegins (rows : List Row) (l m : List Str) (Q : VK) (H : Hp) : Prop := ∀ H', Same H H' → Q (.bl (parts rows l m).isSome) H'
/-- a pair of branches that stand at one place -/
def PairOk (rows : List Row) (q : List Str × List Str) : Prop := (∃ z, q.1 = [z] ∧ q.2 = [z]) ∨ ∃ x y a b, q.1 = x :: a ∧ q.2 = y :: b ∧ x ≠ y ∧ Mth.forest (wR rows) (x :: a) 1 = true ∧ Mth.forest (wR rows) (y :: b) 1 = true
theorem PairOk.pos {rows : List Row} {q : List Str × List Str} (h : PairOk rows q) : 0 < q.1.length ∧ 0 < q.2.length := by
  rcases h with ⟨z, a, b⟩ | ⟨x, y, a, b, e1, e2, _⟩
  · rw [a, b]; exact ⟨Nat.one_pos, Nat.one_pos⟩
  · rw [e1, e2]; exact ⟨Nat.succ_pos _, Nat.succ_pos _⟩
structure CmpOk (rows : List Row) (l m : List Str) (ps : List (List Str × List Str)) : Prop where
  ok : ∀ q ∈ ps, PairOk rows q
  e1 : (ps.map (·.1)).flatten = l
  e2 : (ps.map (·.2)).flatten = m
def PrsAt (H : Hp) (D : Addr) (ps : List (List Str × List Str)) : Prop := ∃ ts : List Addr, H D = some (.lst (ts.map V.ref)) ∧ ts.length = ps.length ∧ ∀ (i : Nat) (t : Addr) (q : List Str × List Str), ts[i]? = some t → ps[i]? = some q → ∃ a b, Tq H t [.ref a, .ref b] ∧ Tq H a (sV q.1) ∧ Tq H b (sV q.2)
def spCmp (C : Addr) : Sp := fun vs H Q _ => ∃ (b s t : Addr) (rows : List Row) (l m : List Str), vs = [.ref b, .ref s, .ref t] ∧ BedAt C H b rows ∧ ROk 8 rows ∧ Tq H s (l.map V.str) ∧ WfOk rows l ∧ Tq H t (m.map V.str) ∧ WfOk rows m ∧ ∀ H' D ps, Same H H' → H D = none → PrsAt H' D ps → CmpOk rows l m ps → Q (.ref D) H'
section
variable {P : Program} {w : World} {K : PySem.W.Frag} {mg : Str → Option Value} {base : Heap} {C : Addr} {A : XA}
theorem two_at {H : Hp} {s t : Addr} {l m : List Str} (hs : Tq H s (l.map V.str)) (ht : Tq H t (m.map V.str)) : TsAt sV H [s, t] [l, m] := by
  refine ⟨rfl, fun i u x a b => ?_⟩
  match i, a, b with
  | 0, a, b => cases a; cases b; exact hs
  | 1, a, b => cases a; cases b; exact ht
  | i + 2, a, _ => simp at a
theorem fbad2 {rows : List Row} {l m : List Str} (h : fbad rows true [l, m] = none) : due rows true l = none ∧ due rows true m = none := ⟨fbad_none h l (by simp), fbad_none h m (by simp)⟩
end
end Sh
end
section
set_option linter.all false
set_option autoImplicit false
namespace Mth
variable {α : Type} (w : α → Nat)
theorem nxs_all {l : List α} (h : forest w l 1 = true) : nxs w l 0 1 = l.length := by
  have q := forest_skip w l 1 0 h
  have e := forest_zero w q
  unfold nxs
  rw [List.drop_zero, e]
  rfl
theorem cut_forest {l : List α} (h : forest w l 1 = true) {p : Nat} (hp : p < l.length) : forest w (cut w l p) 1 = true := by
  obtain ⟨m, F⟩ := Fst.all w h p (Nat.le_of_lt hp)
  obtain ⟨n, rfl⟩ := F.pos w hp
  have q := forest_take w (l.drop p) 1 n (by rw [Nat.add_comm]; exact F.2)
  unfold cut nxs
  have e : l.length - (skip w (l.drop p) 1).length - p = (l.drop p).length - (skip w (l.drop p) 1).length := by
    rw [List.length_drop]
    omega
  rw [e]
  exact q
theorem cut_len (l : List α) (p : Nat) : (cut w l p).length ≤ l.length := by
  unfold cut
  rw [List.length_take, List.length_drop]
  omega
theorem cut_mem {l : List α} {p : Nat} {z : α} (h : z ∈ cut w l p) : z ∈ l := List.mem_of_mem_drop (List.mem_of_mem_take h)
theorem brs_flat {l : List α} (h : forest w l 1 = true) {p : Nat} {k : α} (hk : l[p]? = some k) : ∀ c, c ≤ w k → (brs w l p c).flatten = (l.drop (p + 1)).take (nxs w l (p + 1) c - (p + 1))
  | 0, _ => by
    have hp := (List.getElem?_eq_some_iff.mp hk).1
    rw [nxs_zero w hp, Nat.sub_self, List.take_zero]
    rfl
  | c + 1, hc => by
    obtain ⟨m1, m2, m3⟩ := end_step w h hk (t := c) (by omega)
    rw [brs_succ, List.flatten_append, brs_flat h hk c (by omega), List.flatten_singleton]
    have g := nxs_ge w l 1 (Nat.le_of_lt m1)
    rw [m3] at g
    unfold cut
    rw [m3, show nxs w l (p + 1) (c + 1) - (p + 1) = (nxs w l (p + 1) c - (p + 1)) + (nxs w l (p + 1) (c + 1) - nxs w l (p + 1) c) by omega, List.take_add, List.drop_drop]
    congr 3
    omega
theorem brs_all {l : List α} (h : forest w l 1 = true) {k : α} (hk : l[0]? = some k) : k :: (brs w l 0 (w k)).flatten = l := by
  have hp := (List.getElem?_eq_some_iff.mp hk).1
  rw [brs_flat w h hk _ (Nat.le_refl _), end_last w hk, nxs_all w h, List.take_of_length_le (by rw [List.length_drop]; omega)]
  have e := (List.getElem?_eq_some_iff.mp hk).2
  cases l with
  | nil => cases hp
  | cons a r =>
    have e2 : a = k := e
    rw [e2]
    rfl
theorem put_cut (l : List α) (p : Nat) (h : p ≤ l.length) : l.take p ++ cut w l p ++ l.drop (nxs w l p 1) = l := by
  have g := nxs_ge w l 1 h
  unfold cut
  have e : l.drop p = (l.drop p).take (nxs w l p 1 - p) ++ l.drop (nxs w l p 1) := by
    have q := (List.take_append_drop (nxs w l p 1 - p) (l.drop p)).symm
    rw [List.drop_drop, show p + (nxs w l p 1 - p) = nxs w l p 1 by omega] at q
    exact q
  rw [List.append_assoc, ← e, List.take_append_drop]
theorem forest_swap {a o r : List α} (ha : forest w a 1 = true) (ho : forest w o 1 = true) : ∀ (pre : List α) (n : Nat), forest w (pre ++ (a ++ r)) n = true → forest w (pre ++ (o ++ r)) n = true
  | [], n, h => by
    have hn : ∃ m, n = m + 1 := by
      cases n with
      | succ m => exact ⟨m, rfl⟩
      | zero =>
        have e : a ++ r = [] := forest_zero w h
        have e2 : a = [] := (List.append_eq_nil_iff.mp e).1
        exact absurd e2 (forest_pos w ha)
    obtain ⟨m, rfl⟩ := hn
    have q := forest_skip w (a ++ r) 1 m (by rw [Nat.add_comm]; exact h)
    rw [skip_app w a r 1 ha] at q
    have z := forest_app w o r 1 m ho q
    rw [Nat.add_comm] at z
    exact z
  | k :: pre, 0, h => by cases h
  | k :: pre, n + 1, h => forest_swap ha ho pre (w k + n) h
def pu (l : List α) (p : Nat) (o : List α) : List α := l.take p ++ o ++ l.drop (nxs w l p 1)
theorem pu_forest {l o : List α} (h : forest w l 1 = true) (ho : forest w o 1 = true) {p : Nat} (hp : p < l.length) : forest w (pu w l p o) 1 = true := by
  unfold pu
  rw [List.append_assoc]
  refine forest_swap w (cut_forest w h hp) ho (l.take p) 1 ?_
  rw [← List.append_assoc, put_cut w l p (Nat.le_of_lt hp)]
  exact h
theorem pu_drop {l o : List α} {p : Nat} (hp : p < l.length) : (pu w l p o).drop p = o ++ l.drop (nxs w l p 1) := by
  unfold pu
  rw [List.append_assoc, List.drop_append_of_le_length (by rw [List.length_take]; omega), List.drop_take, Nat.sub_self, List.take_zero, List.nil_append]
theorem pu_take {l o : List α} {p : Nat} (hp : p < l.length) : (pu w l p o).take p = l.take p := by
  unfold pu
  rw [List.append_assoc, List.take_append_of_le_length (by rw [List.length_take]; omega), List.take_take, Nat.min_self]
theorem pu_nxs {l o : List α} (ho : forest w o 1 = true) {p : Nat} (hp : p < l.length) : nxs w (pu w l p o) p 1 = p + o.length := by
  unfold nxs
  rw [pu_drop w hp, skip_app w o _ 1 ho]
  unfold pu
  rw [List.length_append, List.length_append, List.length_take]
  omega
theorem pu_cut {l o : List α} (ho : forest w o 1 = true) {p : Nat} (hp : p < l.length) : cut w (pu w l p o) p = o := by
  unfold cut
  rw [pu_nxs w ho hp, pu_drop w hp, show p + o.length - p = o.length by omega, List.take_left']
  rfl
theorem pu_back {l o : List α} (ho : forest w o 1 = true) {p : Nat} (hp : p < l.length) : pu w (pu w l p o) p (cut w l p) = l := by
  show (pu w l p o).take p ++ cut w l p ++ (pu w l p o).drop (nxs w (pu w l p o) p 1) = l
  rw [pu_take w hp, pu_nxs w ho hp]
  have e : (pu w l p o).drop (p + o.length) = l.drop (nxs w l p 1) := by
    rw [← List.drop_drop, pu_drop w hp, List.drop_left']
    rfl
  rw [e]
  exact put_cut w l p (Nat.le_of_lt hp)
theorem pu_self {l : List α} {p : Nat} (hp : p < l.length) : pu w l p (cut w l p) = l := put_cut w l p (Nat.le_of_lt hp)
theorem walkI_nat (l : List α) : ∀ (cs : List Nat) (p : Nat), walkI w l p (cs.map fun n => ((n : Nat) : Int)) = walk w l p cs
  | [], p => rfl
  | c :: cs, p => by
    show (if 0 ≤ ((c : Nat) : Int) ∧ ((c : Nat) : Int) < (wd w l p : Int) then walkI w l (nxs w l (p + 1) ((c : Nat) : Int).toNat) (cs.map fun n => ((n : Nat) : Int)) else none) = walk w l p (c :: cs)
    unfold walk wd
    rw [Int.toNat_natCast, walkI_nat l cs]
    cases l[p]? with
    | none => exact if_neg (by simp)
    | some k =>
      by_cases h : c < w k
      · exact (if_pos (show 0 ≤ ((c : Nat) : Int) ∧ ((c : Nat) : Int) < ((w k : Nat) : Int) from ⟨by omega, by omega⟩)).trans (if_pos h).symm
      · exact (if_neg (show ¬ (0 ≤ ((c : Nat) : Int) ∧ ((c : Nat) : Int) < ((w k : Nat) : Int)) from fun q => by omega)).trans (if_neg h).symm
theorem walkI_app (l : List α) : ∀ (a : List Int) (p : Nat) (b : List Int), walkI w l p (a ++ b) = (walkI w l p a).bind fun q => walkI w l q b
  | [], p, b => rfl
  | c :: a, p, b => by
    show (if 0 ≤ c ∧ c < (wd w l p : Int) then walkI w l (nxs w l (p + 1) c.toNat) (a ++ b) else none) = (if 0 ≤ c ∧ c < (wd w l p : Int) then walkI w l (nxs w l (p + 1) c.toNat) a else none).bind fun q => walkI w l q b
    by_cases h : 0 ≤ c ∧ c < (wd w l p : Int)
    · rw [if_pos h, if_pos h]
      exact walkI_app l a _ b
    · rw [if_neg h, if_neg h]
      rfl
theorem walk_pu {l o : List α} (h : forest w l 1 = true) {p : Nat} (hp : p < l.length) : walk w (pu w l p o) 0 (pth w l p) = some p := by
  have q := pth_walk w h hp
  have hl : (l.take p).length = p := by rw [List.length_take]; omega
  have e : l = l.take p ++ l.drop p := (List.take_append_drop p l).symm
  have hy : l.drop p ≠ [] := fun e => by
    have := congrArg List.length e
    rw [List.length_drop] at this
    simp at this
    omega
  have z := walk_swap (w := w) (pre := l.take p) (y := l.drop p) (y' := o ++ l.drop (nxs w l p 1)) hy (pth w l p) [] (l.take p) rfl (by rw [← e, hl]; exact q)
  rw [hl] at z
  unfold pu
  rw [List.append_assoc]
  exact z
end Mth
end
section
set_option Elab.async false
set_option linter.all false
set_option maxRecDepth 100000
set_option maxHeartbeats 2000000
set_option autoImplicit false
namespace Sh
open PySem PySem.Spec PyProof.Rows L2
open C8 (pss_cut tCut)
open Evl (ixN_nat)
/-! ### tuples of texts compared -/
def stD (l : List Str) : PyData := .tuple (l.map PyData.str)
theorem dp_strs {K : PySem.W.Frag} {H : Hp} : ∀ l : List Str, DpAll K H (sV l) (l.map PyData.str)
  | [] => .nil
  | _ :: l => .cons (.str _) (dp_strs l)
def okT (z : Str) : Bool := z.cps.all (· < 0x110000)
theorem lay_strs : ∀ l : List Str, (∀ z ∈ l, okT z = true) → PyData.canLayAll0 (l.map PyData.str) = true
  | [], _ => rfl
  | a :: l, h => by
    show (okT a && PyData.canLayAll0 (l.map PyData.str)) = true
    rw [lay_strs l fun z hz => h z (List.mem_cons_of_mem _ hz), h a List.mem_cons_self]
    rfl
theorem okT_nm {z : Str} (h : IsNm z) : okT z = true := by
  unfold okT
  rw [Array.all_eq_true_iff_forall_mem]
  intro c hc
  have := h.2.2 c (by simpa using hc)
  exact decide_eq_true (by omega)
theorem StumpOk.okT {rows : List Row} (R : ROk 8 rows) {l : List Str} (O : StumpOk rows l) : ∀ z ∈ l, okT z = true := fun z hz => by
  rcases O.k z hz with e | ⟨q, hq, e⟩
  · rw [e]
    decide +kernel
  · rw [← e]
    exact okT_nm (R.nm q hq)
theorem dep_strs : ∀ l : List Str, PyData.depthAll (l.map PyData.str) = 0
  | [] => rfl
  | _ :: l => by
    show max 0 (PyData.depthAll (l.map PyData.str)) = 0
    rw [dep_strs l]
    rfl
theorem stD_shaped {l : List Str} (h : ∀ z ∈ l, okT z = true) : SeqAt.shaped (stD l) = true := by
  show (PyData.canLayAll0 (l.map PyData.str) && decide (PyData.depthAll (l.map PyData.str) + 1 ≤ 64)) = true
  rw [lay_strs l h, dep_strs l]
  rfl
theorem eqv_strs : ∀ l m : List Str, PyData.eqvAll (l.map PyData.str) (m.map PyData.str) = decide (l = m)
  | [], [] => rfl
  | [], _ :: _ => rfl
  | _ :: _, [] => rfl
  | a :: l, b :: m => by
    show ((a == b) && PyData.eqvAll (l.map PyData.str) (m.map PyData.str)) = _
    rw [eqv_strs l m]
    by_cases h : a = b
    · by_cases h2 : l = m <;> simp [h, h2]
    · simp [h]
theorem stD_eqv (l m : List Str) : PyData.eqv (stD l) (stD m) = decide (l = m) := eqv_strs l m
theorem dp_of {K : PySem.W.Frag} {H : Hp} {a : Addr} {l : List Str} (h : Tq H a (sV l)) : Dp K H (.ref a) (stD l) := .tup h.sq (dp_strs l)
/-! ### what is common, what is united -/
def shr : List (List Str × List Str) → List Str
  | [] => []
  | q :: r => (if q.1 = q.2 then q.1 else ["*"]) ++ shr r
/-- the two differ and neither is a hole -/
def clash (q : List Str × List Str) : Prop := q.1 ≠ q.2 ∧ ¬ (q.1.head? = some ("*" : Str) ∨ q.2.head? = some ("*" : Str))
instance (q : List Str × List Str) : Decidable (clash q) := inferInstanceAs (Decidable (_ ∧ _))
def uni : List (List Str × List Str) → List Str
  | [] => []
  | q :: r => (if q.1.head? = some ("*" : Str) then q.2 else q.1) ++ uni r
theorem shr_app : ∀ ps qs : List (List Str × List Str), shr (ps ++ qs) = shr ps ++ shr qs
  | [], _ => rfl
  | q :: r, qs => by
    show (if q.1 = q.2 then q.1 else ["*"]) ++ shr (r ++ qs) = ((if q.1 = q.2 then q.1 else ["*"]) ++ shr r) ++ shr qs
    rw [shr_app r qs, List.append_assoc]
theorem uni_app : ∀ ps qs : List (List Str × List Str), uni (ps ++ qs) = uni ps ++ uni qs
  | [], _ => rfl
  | q :: r, qs => by
    show (if q.1.head? = some ("*" : Str) then q.2 else q.1) ++ uni (r ++ qs) = ((if q.1.head? = some ("*" : Str) then q.2 else q.1) ++ uni r) ++ uni qs
    rw [uni_app r qs, List.append_assoc]
theorem uni_le : ∀ ps : List (List Str × List Str), (uni ps).length ≤ (ps.map (·.1)).flatten.length + (ps.map (·.2)).flatten.length
  | [] => Nat.zero_le _
  | q :: r => by
    have ih := uni_le r
    have e : uni (q :: r) = (if q.1.head? = some ("*" : Str) then q.2 else q.1) ++ uni r := rfl
    rw [e, List.map_cons, List.map_cons, List.flatten_cons, List.flatten_cons, List.length_append, List.length_append, List.length_append]
    split <;> omega
theorem shr_le {rows : List Row} : ∀ ps : List (List Str × List Str), (∀ q ∈ ps, PairOk rows q) → (shr ps).length ≤ (ps.map (·.1)).flatten.length
  | [], _ => Nat.zero_le _
  | q :: r, h => by
    have ih := shr_le r fun x hx => h x (List.mem_cons_of_mem _ hx)
    have p := (h q List.mem_cons_self).pos
    have e : shr (q :: r) = (if q.1 = q.2 then q.1 else ["*"]) ++ shr r := rfl
    rw [e, List.map_cons, List.flatten_cons, List.length_append, List.length_append]
    split
    · omega
    · rw [List.length_singleton]
      omega
theorem w_star {rows : List Row} {m : Int} (R : ROk m rows) : wR rows "*" = 0 := by
  rcases nm_case R ("*" : Str) with q | q
  · exact q.2.1
  · have := nm_star R
    omega
theorem PairOk.other {rows : List Row} {q : List Str × List Str} (h : PairOk rows q) (n : q.1 ≠ q.2) : Mth.forest (wR rows) q.1 1 = true ∧ Mth.forest (wR rows) q.2 1 = true := by
  rcases h with ⟨z, a, b⟩ | ⟨x, y, a, b, e1, e2, _, f1, f2⟩
  · exact absurd (a.trans b.symm) n
  · rw [e1, e2]
    exact ⟨f1, f2⟩
theorem shr_forest {rows : List Row} {m : Int} (R : ROk m rows) : ∀ (ps : List (List Str × List Str)) (pre : List Str), (∀ q ∈ ps, PairOk rows q) → Mth.forest (wR rows) (pre ++ (ps.map (·.1)).flatten) 1 = true → Mth.forest (wR rows) (pre ++ shr ps) 1 = true
  | [], _, _, h => h
  | q :: r, pre, hp, h => by
    rw [List.map_cons, List.flatten_cons] at h
    have e : shr (q :: r) = (if q.1 = q.2 then q.1 else ["*"]) ++ shr r := rfl
    rw [e]
    have hr := fun x hx => hp x (List.mem_cons_of_mem _ hx)
    by_cases c : q.1 = q.2
    · rw [if_pos c, ← List.append_assoc]
      exact shr_forest R r _ hr (by rw [List.append_assoc]; exact h)
    · rw [if_neg c, ← List.append_assoc]
      refine shr_forest R r _ hr ?_
      rw [List.append_assoc]
      refine Mth.forest_swap (wR rows) ((hp q List.mem_cons_self).other c).1 ?_ pre 1 h
      unfold Mth.forest
      rw [w_star R]
      rfl
theorem shr_mem {rows : List Row} : ∀ {ps : List (List Str × List Str)} {z : Str}, z ∈ shr ps → z = "*" ∨ z ∈ (ps.map (·.1)).flatten
  | [], _, h => nomatch h
  | q :: r, z, h => by
    have e : shr (q :: r) = (if q.1 = q.2 then q.1 else ["*"]) ++ shr r := rfl
    rw [e] at h
    rw [List.map_cons, List.flatten_cons]
    rcases List.mem_append.mp h with h | h
    · split at h
      · exact .inr (List.mem_append_left _ h)
      · exact .inl (List.mem_singleton.mp h)
    · rcases shr_mem (rows := rows) h with h | h
      · exact .inl h
      · exact .inr (List.mem_append_right _ h)
theorem shr_ok {rows : List Row} (R : ROk 8 rows) {l m : List Str} {ps : List (List Str × List Str)} (O : StumpOk rows l) (c : CmpOk rows l m ps) : StumpOk rows (shr ps) := by
  refine ⟨?_, fun z hz => ?_, ?_⟩
  · exact shr_forest R ps [] c.ok (by rw [List.nil_append, c.e1]; exact O.f)
  · rcases shr_mem (rows := rows) hz with h | h
    · exact .inl h
    · rw [c.e1] at h
      exact O.k z h
  · have q := shr_le ps c.ok
    rw [c.e1] at q
    have := O.sz
    omega
section
variable {P : Program} {w : World} {K : PySem.W.Frag} {mg : Str → Option Value} {base : Heap} {C : Addr} {A : XA}
end
end Sh
end
section
set_option Elab.async false
set_option linter.all false
set_option maxRecDepth 100000
set_option maxHeartbeats 2000000
set_option autoImplicit false
namespace Sh
open PySem PySem.Spec PyProof.Rows L2
open C8 (pss_cut tCut)
open Evl (ixN_nat)
def spShared (C : Addr) : Sp := fun vs H Q _ => ∃ (b s t : Addr) (rows : List Row) (l m : List Str), vs = [.ref b, .ref s, .ref t] ∧ BedAt C H b rows ∧ ROk 8 rows ∧ Tq H s (l.map V.str) ∧ StumpOk rows l ∧ Tq H t (m.map V.str) ∧ StumpOk rows m ∧ ∀ H' q ps, Same H H' → CmpOk rows l m ps → Tz H' q (sV (shr ps)) → Q (.ref q) H'
/-- the common stump of the first and the others -/
def ComR (rows : List Row) : List Str → List (List Str) → List Str → Prop
  | l, [], c => c = l
  | l, m :: ms, c => ∃ ps, CmpOk rows l m ps ∧ ComR rows (shr ps) ms c
def spCommon (C : Addr) (A : XA) : Sp := fun vs H Q E => ∃ (b s p : Addr) (rows : List Row) (l : List Str) (ts : List Addr) (ms : List (List Str)), vs = [.ref b, .ref s, .ref p] ∧ BedAt C H b rows ∧ ROk 8 rows ∧ Tq H s (l.map V.str) ∧ l.length ≤ 6000 ∧ Tq H p (ts.map V.ref) ∧ TsAt sV H ts ms ∧ (∀ x ∈ ms, x.length ≤ 6000) ∧ ms.length ≤ 20 ∧
  Way A E H (fbad rows true (l :: ms)) (∀ H' q c, Same H H' → ComR rows l ms c → Tq H' q (sV c) → (ms ≠ [] → Tz H' q (sV c)) → Q (.ref q) H')
def clashes (ps : List (List Str × List Str)) : Prop := ∃ q ∈ ps, clash q
instance (ps : List (List Str × List Str)) : Decidable (clashes ps) := inferInstanceAs (Decidable (∃ q, q ∈ ps ∧ clash q))
theorem CmpOk.mem1 {rows : List Row} {l m : List Str} {ps : List (List Str × List Str)} (c : CmpOk rows l m ps) {q : List Str × List Str} (h : q ∈ ps) {z : Str} (hz : z ∈ q.1) : z ∈ l := by
  rw [← c.e1]
  exact List.mem_flatten.mpr ⟨q.1, List.mem_map_of_mem (f := (·.1)) h, hz⟩
theorem CmpOk.mem2 {rows : List Row} {l m : List Str} {ps : List (List Str × List Str)} (c : CmpOk rows l m ps) {q : List Str × List Str} (h : q ∈ ps) {z : Str} (hz : z ∈ q.2) : z ∈ m := by
  rw [← c.e2]
  exact List.mem_flatten.mpr ⟨q.2, List.mem_map_of_mem (f := (·.2)) h, hz⟩
theorem flat_take {α : Type} (ls : List (List α)) (i : Nat) : (ls.take i).flatten.length ≤ ls.flatten.length := by
  conv => rhs; rw [← List.take_append_drop i ls, List.flatten_append, List.length_append]
  omega
theorem PrsAt.at {H : Hp} {D : Addr} {ps : List (List Str × List Str)} (h : PrsAt H D ps) : ∃ ts : List Addr, H D = some (.lst (ts.map V.ref)) ∧ (ts.map V.ref).length = ps.length ∧ ∀ (i : Nat) (hi : i < ps.length), ∃ t a b, (ts.map V.ref)[i]? = some (.ref t) ∧ Tq H t [.ref a, .ref b] ∧ Tq H a (sV ps[i].1) ∧ Tq H b (sV ps[i].2) := by
  obtain ⟨ts, t1, t2, t3⟩ := h
  refine ⟨ts, t1, by rw [List.length_map, t2], fun i hi => ?_⟩
  have ht : i < ts.length := by omega
  obtain ⟨a, b, y1, y2, y3⟩ := t3 i ts[i] ps[i] (List.getElem?_eq_getElem ht) (List.getElem?_eq_getElem hi)
  exact ⟨ts[i], a, b, by rw [List.getElem?_map, List.getElem?_eq_getElem ht]; rfl, y1, y2, y3⟩
/-- the union of two stumps, read from left to right -/
inductive Un (w : Str → Nat) : List Str → List Str → Option (List Str) → Prop
  | nil (r : List Str) : Un w r [] (some [])
  | same (a : Str) (l m : List Str) (o : Option (List Str)) : Un w l m o → Un w (a :: l) (a :: m) (o.map fun u => [a] ++ u)
  | right (t l m : List Str) (o : Option (List Str)) : Mth.forest w t 1 = true → t.head? ≠ some "*" → Un w l m o → Un w (t ++ l) ("*" :: m) (o.map fun u => t ++ u)
  | left (t l m : List Str) (o : Option (List Str)) : Mth.forest w t 1 = true → t.head? ≠ some "*" → Un w l m o → Un w ("*" :: l) (t ++ m) (o.map fun u => t ++ u)
  | clash (a b : Str) (l m : List Str) : a ≠ b → a ≠ "*" → b ≠ "*" → Un w (a :: l) (b :: m) none
theorem Un.le {w : Str → Nat} {l m : List Str} {o : Option (List Str)} (h : Un w l m o) : ∀ u, o = some u → u.length ≤ l.length + m.length := by
  induction h with
  | nil r => intro u e; cases e; exact Nat.zero_le _
  | same a l m o h ih =>
    intro u e
    cases o with
    | none => cases e
    | some v =>
      cases e
      have := ih v rfl
      simp only [List.length_append, List.length_cons, List.length_nil]
      omega
  | right t l m o ht h1 h ih =>
    intro u e
    cases o with
    | none => cases e
    | some v =>
      cases e
      have := ih v rfl
      simp only [List.length_append, List.length_cons]
      omega
  | left t l m o ht h1 h ih =>
    intro u e
    cases o with
    | none => cases e
    | some v =>
      cases e
      have := ih v rfl
      simp only [List.length_append, List.length_cons]
      omega
  | clash a b l m h1 h2 h3 => intro u e; cases e
def UnV (H : Hp) (v : V) (o : Option (List Str)) : Prop := match o with
  | none => v = .non
  | some u => ∃ q, v = .ref q ∧ H q = some (.lst (sV u))
def spUnionOf : Sp := fun vs H Q _ => ∃ (s d t e : Addr) (p : Nat) (rows : List Row) (l m : List Str), vs = [.ref s, .ref d, .int (p : Nat), .ref t, .ref e] ∧ ROk 8 rows ∧ Tq H s (l.map V.str) ∧ WfOk rows l ∧ p < l.length ∧ Tq H t (m.map V.str) ∧ WfOk rows m ∧ EndsAt H d rows l ∧ EndsAt H e rows m ∧ ∀ H' v o, Same H H' → Un (wR rows) (l.drop p) m o → UnV H' v o → Q v H'
def spUnited (C : Addr) (A : XA) : Sp := fun vs H Q E => ∃ (b s t : Addr) (rows : List Row) (l m : List Str), vs = [.ref b, .ref s, .ref t] ∧ BedAt C H b rows ∧ ROk 8 rows ∧ Tq H s (l.map V.str) ∧ l.length ≤ 6000 ∧ Tq H t (m.map V.str) ∧ m.length ≤ 6000 ∧
  Way A E H (fbad rows true [l, m]) (∀ o, Un (wR rows) l m o → (o = none → ∀ H', Same H H' → Q .non H') ∧ (∀ u, o = some u → (2000 < u.length → Rz A E H .many) ∧ (u.length ≤ 2000 → ∀ H' q, Same H H' → Tz H' q (sV u) → Q (.ref q) H')))
abbrev s_union_of : Stmt := top 19
abbrev N_union_of : List Str := ["first", "first_ends", "left", "second", "second_ends", "entries", "right", "left_end", "right_end"]
theorem sc_union_of : FnScope N_union_of ["first", "first_ends", "left", "second", "second_ends"] (defScope s_union_of) := ⟨rfl, rfl, rfl, by decide +kernel, rfl, by decide +kernel, by decide +kernel⟩
section
variable {P : Program} {w : World} {K : PySem.W.Frag} {mg : Str → Option Value} {base : Heap} {C : Addr} {A : XA}
theorem head_of {x : Str} {a : List Str} : (x :: a).head? = some ("*" : Str) ↔ x = "*" := by
  rw [List.head?_cons]
  exact ⟨fun h => Option.some.inj h, fun h => by rw [h]⟩
theorem drop_cut {w : Str → Nat} {l : List Str} {p : Nat} (h : p < l.length) : l.drop p = Mth.cut w l p ++ l.drop (Mth.nxs w l p 1) := by
  unfold Mth.cut
  have h2 := Mth.nxs_ge w l 1 (Nat.le_of_lt h)
  have e : l.drop (Mth.nxs w l p 1) = (l.drop p).drop (Mth.nxs w l p 1 - p) := by rw [List.drop_drop]; congr 1; omega
  rw [e, List.take_append_drop]
theorem cut_head {w : Str → Nat} {l : List Str} {p : Nat} (h : p < l.length) : (Mth.cut w l p).head? = some l[p] := by
  unfold Mth.cut
  have h2 : p < Mth.nxs w l p 1 := Mth.nxs_gt w 0 h
  obtain ⟨z, hz⟩ : ∃ z, Mth.nxs w l p 1 - p = z + 1 := ⟨Mth.nxs w l p 1 - p - 1, by omega⟩
  rw [hz, List.drop_eq_getElem_cons h, List.take_succ_cons]
  rfl
theorem ok_union_of (T : Bk mg) (D : Def0 K mg "union_of" s_union_of) : DefOk P w K mg base CX0 1 "union_of" spUnionOf := by
  refine D.ok sc_union_of (fun vs H Q E h => ?_) (fun _ _ _ _ _ _ us hl => match us, hl with | [_, _, _, _, _], _ => rfl) (fun f cdv A' outer s H vs Q E hr h => ?_)
  · obtain ⟨s, d, t, e, p, rows, l, m, rfl, _⟩ := h
    rfl
  · obtain ⟨s, d, t, e, p0, rows, l, m, rfl, R, hs, O, hp0, ht, O2, hd, he, k⟩ := h
    have hsz := O.sz
    have hsz2 := O2.sz
    have w0 : wR rows "*" = 0 := w_star R
    obtain ⟨n00, hF0⟩ := Mth.Fst.all (wR rows) O.f p0 (Nat.le_of_lt hp0)
    obtain ⟨n0, rfl⟩ := hF0.pos _ hp0
    refine ⟨_, (pss_cons (ps_set (i := 5) sc_union_of.nd rfl (Or.inl rfl) (pe_lst pa_nil))
      (pss_cons (ps_set (i := 6) sc_union_of.nd rfl (Or.inl rfl) pe_int)
      (pss_cons (ps_while PassesOwn.never (pt_cmpR op_lt (pv 6) (pe_callB call_len_seq (by rfl) T.b_len boot_len (pa_cons (pv 3) pa_nil)) (nomark _))
        (pss_cons (ps_par (i := 7) (j := 8) rfl sc_union_of.nd rfl rfl (by decide) rfl rfl (pa_cons (pe_op op_add (pv 2) pe_int) (pa_cons (pe_op op_add (pv 6) pe_int) pa_nil)) rfl)
        (pss_cut (ps_if (PW.pt (pw_or (pt_cmpR op_eq (pe_ix ix_tup (pv 0) (pv 2) (fun _ _ => rfl)) (pe_ix ix_tup (pv 3) (pv 6) (fun _ _ => rfl)) (nomark _)) (pw_or1 (pt_cmpR op_eq (pe_ix ix_tup (pv 3) (pv 6) (fun _ _ => rfl)) (pe_cS (by rfl) T.c_HOLE) (nomark _)))))
          (pss_cons (ps_set (i := 7) sc_union_of.nd rfl (Or.inl rfl) (pe_ifExp (pt_cmpR op_eq (pe_ix ix_tup (pv 0) (pv 2) (fun _ _ => rfl)) (pe_ix ix_tup (pv 3) (pv 6) (fun _ _ => rfl)) (nomark _)) (pe_op op_add (pv 2) pe_int) (pe_ix ix_list (pv 1) (pv 2) (fun _ _ => rfl))))
          (pss_one (ps_expr (pe_bm PySem.F.plainAttrs_list PySem.F.slot_list_extend PySem.F.type_list_extend mt_extendT (pv 5) (pa_cons (pe_slice sl_tupA (pv 0) (po_some (pv 2)) (po_some (pv 7))) pa_nil)))))
          (pss_one (ps_if (pt_cmpR op_eq (pe_ix ix_tup (pv 0) (pv 2) (fun _ _ => rfl)) (pe_cS (by rfl) T.c_HOLE) (nomark _))
            (pss_cons (ps_set (i := 8) sc_union_of.nd rfl (Or.inl rfl) (pe_ix ix_list (pv 4) (pv 6) (fun _ _ => rfl)))
            (pss_one (ps_expr (pe_bm PySem.F.plainAttrs_list PySem.F.slot_list_extend PySem.F.type_list_extend mt_extendT (pv 5) (pa_cons (pe_slice sl_tupA (pv 3) (po_some (pv 6)) (po_some (pv 8))) pa_nil)))))
            (pss_one (ps_ret pe_non)))))
        (pss_one (ps_par (i := 2) (j := 6) rfl sc_union_of.nd rfl rfl (by decide) rfl rfl (pa_cons (pv 7) (pa_cons (pv 8) pa_nil)) rfl)))))
      (pss_one (ps_ret (pv 5)))))), ?_⟩
    refine ⟨le_line (show 0 ≤ 100000 by decide), fun D hD => ?_⟩
    have s0 := (Same.refl H).upd_new (o := .lst []) hD
    refine ⟨fun μ σ H' => ∃ (y z : Option V) (p q n : Nat) (u : List Str), σ = [some (.ref s), some (.ref d), some (.int (p : Nat)), some (.ref t), some (.ref e), some (.ref D), some (.int (q : Nat)), y, z] ∧ μ = m.length - q ∧ Same H H' ∧
      H' D = some (.lst (sV u)) ∧ u.length + p0 ≤ p + q ∧ p ≤ l.length ∧ q ≤ m.length ∧ (∀ o, Un (wR rows) (l.drop p) (m.drop q) o → Un (wR rows) (l.drop p0) m (o.map fun x => u ++ x)) ∧ Mth.Fst (wR rows) l p (n + n0) ∧ Mth.Fst (wR rows) m q n, ⟨_, none, none, p0, 0, 1, [], rfl, rfl, s0, upd_same, Nat.le_of_eq (Nat.zero_add _), Nat.le_of_lt hp0, Nat.zero_le _, fun o h => by simpa using h, (by rw [Nat.add_comm]; exact hF0), ⟨Nat.zero_le _, O2.f⟩⟩, ?_⟩
    rintro μ σ H3 ⟨y, z, p, q, n, u, rfl, rfl, s3, hu3, hul, hpl, hql, hU, F1, F2⟩
    refine ⟨_, rfl, _, rfl, t, _, rfl, .inr (ht.same s3).sq, _, _, rfl, rfl, _, rfl, ?_⟩
    by_cases hlt : q < m.length
    · refine ifp (by rw [List.length_map]; exact decide_eq_true (by omega)) ⟨fun σ' H' => ∃ m', m' < m.length - q ∧ _, fun _ _ h => h, ?_⟩
      have hn : ∃ n', n = n' + 1 := F2.pos _ hlt
      obtain ⟨n', rfl⟩ := hn
      have F1' : Mth.Fst (wR rows) l p (n' + n0 + 1) := by rw [show n' + n0 + 1 = n' + 1 + n0 by omega]; exact F1
      have hpm : p < l.length := Mth.Fst.lt (wR rows) F1'
      have G1 := F1'.in _ (List.getElem?_eq_getElem hpm)
      have G2 := F2.in _ (List.getElem?_eq_getElem hlt)
      have S1 : Mth.Fst (wR rows) l (Mth.nxs (wR rows) l p 1) (n' + n0) := Mth.Fst.skip (wR rows) (a := 1) (b := n' + n0) (by rw [Nat.add_comm]; exact F1')
      have S2 : Mth.Fst (wR rows) m (Mth.nxs (wR rows) m q 1) n' := Mth.Fst.skip (wR rows) (a := 1) (b := n') (by rw [Nat.add_comm]; exact F2)
      have dl : l.drop p = l[p] :: l.drop (p + 1) := List.drop_eq_getElem_cons hpm
      have dm : m.drop q = m[q] :: m.drop (q + 1) := List.drop_eq_getElem_cons hlt
      have k1 : p < Mth.nxs (wR rows) l p 1 := Mth.nxs_gt (wR rows) 0 hpm
      have k2 : q < Mth.nxs (wR rows) m q 1 := Mth.nxs_gt (wR rows) 0 hlt
      have k3 := Mth.nxs_le (wR rows) l p 1
      have k4 := Mth.nxs_le (wR rows) m q 1
      have at1 : ∀ H', Same H H' → ∃ a, Tq H' s (l.map V.str) := fun H' q => ⟨s, hs.same q⟩
      refine ⟨_, rfl, _, _, rfl, rfl, _, rfl, _, _, rfl, rfl, _, _, rfl, ?_⟩
      have next : ∀ (p2 q2 : Nat) (c : List Str) (H4 : Hp), Same H H4 → H4 D = some (.lst (sV (u ++ c))) → c.length + p + q ≤ p2 + q2 → p2 ≤ l.length → q2 ≤ m.length → q < q2 →
          (∀ o, Un (wR rows) (l.drop p2) (m.drop q2) o → Un (wR rows) (l.drop p) (m.drop q) (o.map fun x => c ++ x)) → (∃ n2, Mth.Fst (wR rows) l p2 (n2 + n0) ∧ Mth.Fst (wR rows) m q2 n2) →
          ∃ m', m' < m.length - q ∧ ∃ (y z : Option V) (p_1 q_1 n_1 : Nat) (u_1 : List Str), ([some (.ref s), some (.ref d), some (.int (p2 : Nat)), some (.ref t), some (.ref e), some (.ref D), some (.int (q2 : Nat)), some (.int (p2 : Nat)), some (.int (q2 : Nat))] : L2.St) = [some (.ref s), some (.ref d), some (.int (p_1 : Nat)), some (.ref t), some (.ref e), some (.ref D), some (.int (q_1 : Nat)), y, z] ∧ m' = m.length - q_1 ∧ Same H H4 ∧
            H4 D = some (.lst (sV u_1)) ∧ u_1.length + p0 ≤ p_1 + q_1 ∧ p_1 ≤ l.length ∧ q_1 ≤ m.length ∧ (∀ o, Un (wR rows) (l.drop p_1) (m.drop q_1) o → Un (wR rows) (l.drop p0) m (o.map fun x => u_1 ++ x)) ∧ Mth.Fst (wR rows) l p_1 (n_1 + n0) ∧ Mth.Fst (wR rows) m q_1 n_1 := by
        rintro p2 q2 c H4 s4 h4 hc h5 h6 h7 hUn ⟨n2, g1, g2⟩
        refine ⟨m.length - q2, by omega, _, _, p2, q2, n2, u ++ c, rfl, rfl, s4, h4, by rw [List.length_append]; omega, h5, h6, fun o h => ?_, g1, g2⟩
        have := hU _ (hUn o h)
        rw [Option.map_map] at this
        have e : ((fun x => u ++ x) ∘ fun x => c ++ x) = fun x => u ++ c ++ x := by funext x; simp
        rw [e] at this
        exact this
      refine ⟨fun σ' H' => ∃ (p2 q2 : Nat) (c : List Str), σ' = [some (.ref s), some (.ref d), some (.int (p : Nat)), some (.ref t), some (.ref e), some (.ref D), some (.int (q : Nat)), some (.int (p2 : Nat)), some (.int (q2 : Nat))] ∧ Same H H' ∧ H' D = some (.lst (sV (u ++ c))) ∧ c.length + p + q ≤ p2 + q2 ∧ p2 ≤ l.length ∧ q2 ≤ m.length ∧ q < q2 ∧
          (∀ o, Un (wR rows) (l.drop p2) (m.drop q2) o → Un (wR rows) (l.drop p) (m.drop q) (o.map fun x => c ++ x)) ∧ (∃ n2, Mth.Fst (wR rows) l p2 (n2 + n0) ∧ Mth.Fst (wR rows) m q2 n2), ?_, ?_⟩
      · have ln : ∀ (xs : List Str) (i j : Nat), j - i ≤ 2000 → (sV u).length + (((xs.map V.str).drop i).take (j - i)).length ≤ 100000 := fun xs i j h => by
          unfold sV
          rw [List.length_map, List.length_take]
          omega
        have up : ∀ (xs : List Str) (i j : Nat) (H4 : Hp), (upd H4 D (.lst (sV u ++ ((xs.map V.str).drop i).take (j - i)))) D = some (.lst (sV (u ++ (xs.drop i).take (j - i)))) := fun xs i j H4 => by
          rw [upd_same]
          unfold sV
          rw [List.map_append, List.map_take, List.map_drop]
        refine ⟨_, rfl, _, rfl, s, _, _, _, rfl, rfl, (hs.same s3).sq, str_at hpm rfl, _, rfl, _, rfl, t, _, _, _, rfl, rfl, (ht.same s3).sq, str_at hlt rfl, rfl, _, rfl, ?_⟩
        have one : (l.drop p).take (p + 1 - p) = [l[p]] := by
          rw [Nat.add_sub_cancel_left, dl]
          rfl
        by_cases c : l[p] = m[q]
        · refine ifp (decide_eq_true (congrArg V.str c)) ?_
          refine ⟨_, rfl, _, rfl, s, _, _, _, rfl, rfl, (hs.same s3).sq, str_at hpm rfl, _, rfl, _, rfl, t, _, _, _, rfl, rfl, (ht.same s3).sq, str_at hlt rfl, rfl, _, rfl, ifp (decide_eq_true (congrArg V.str c)) ?_⟩
          refine ⟨_, rfl, _, _, rfl, rfl, _, rfl, .inl ⟨rfl, _, SqL.of hu3⟩, _, rfl, _, rfl, _, rfl, _, rfl, _, rfl, ?_⟩
          refine slA_of (hs.same s3) (by rw [List.length_map]; exact hpm) (Nat.le_succ p) (fun c9 H4 s4 hc => ?_)
          refine ⟨D, c9, _, _, rfl, rfl, s4 _ _ hu3, hc.sq, le_line (ln l p (p + 1) (by omega)), ?_⟩
          refine ⟨p + 1, q + 1, [l[p]], rfl, (s3.trans s4).upd_own hD, by rw [← one]; exact up _ _ _ _, by rw [List.length_singleton]; omega, hpm, hlt, Nat.lt_succ_self q, fun o h => ?_, wR rows l[p] + n', ?_, ?_⟩
          · rw [dl, dm, ← c]
            exact .same _ _ _ _ h
          · rw [Nat.add_assoc]; exact G1
          · rw [c]; exact G2
        · refine ifn (fun x => c (V.str.inj (of_decide_eq_true x))) ?_
          refine ⟨_, rfl, _, rfl, t, _, _, _, rfl, rfl, (ht.same s3).sq, str_at hlt rfl, rfl, _, rfl, ?_⟩
          by_cases c2 : m[q] = ("*" : Str)
          · refine ifp (decide_eq_true (congrArg V.str c2)) ?_
            refine ⟨_, rfl, _, rfl, s, _, _, _, rfl, rfl, (hs.same s3).sq, str_at hpm rfl, _, rfl, _, rfl, t, _, _, _, rfl, rfl, (ht.same s3).sq, str_at hlt rfl, rfl, _, rfl, ifn (fun x => c (V.str.inj (of_decide_eq_true x))) ?_⟩
            refine ⟨_, rfl, _, rfl, d, _, _, _, rfl, rfl, SqL.of (s3 _ _ hd), int_at (Mth.ends_get (wR rows) hpm) rfl, _, rfl, .inl ⟨rfl, _, SqL.of hu3⟩, _, rfl, _, rfl, _, rfl, _, rfl, _, rfl, ?_⟩
            refine slA_of (hs.same s3) (by rw [List.length_map]; exact k3) (Nat.le_of_lt k1) (fun c9 H4 s4 hc => ?_)
            refine ⟨D, c9, _, _, rfl, rfl, s4 _ _ hu3, hc.sq, le_line (ln l p _ (by omega)), ?_⟩
            refine ⟨_, q + 1, Mth.cut (wR rows) l p, rfl, (s3.trans s4).upd_own hD, up _ _ _ _, ?_, k3, hlt, Nat.lt_succ_self q, fun o h => ?_, n', S1, ?_⟩
            · unfold Mth.cut
              rw [List.length_take, List.length_drop]
              omega
            · rw [drop_cut hpm, dm, c2]
              exact .right _ _ _ _ (Mth.cut_forest (wR rows) O.f hpm) (by rw [cut_head hpm]; exact fun x => c ((Option.some.inj x).trans c2.symm)) h
            · rw [c2, w0, Nat.zero_add] at G2
              exact G2
          · refine ifn (fun x => c2 (V.str.inj (of_decide_eq_true x))) ?_
            refine ⟨_, rfl, _, rfl, s, _, _, _, rfl, rfl, (hs.same s3).sq, str_at hpm rfl, rfl, _, rfl, ?_⟩
            by_cases c3 : l[p] = ("*" : Str)
            · refine ifp (decide_eq_true (congrArg V.str c3)) ?_
              refine ⟨_, rfl, _, rfl, e, _, _, _, rfl, rfl, SqL.of (s3 _ _ he), int_at (Mth.ends_get (wR rows) hlt) rfl, _, rfl, .inl ⟨rfl, _, SqL.of hu3⟩, _, rfl, _, rfl, _, rfl, _, rfl, _, rfl, ?_⟩
              refine slA_of (ht.same s3) (by rw [List.length_map]; exact k4) (Nat.le_of_lt k2) (fun c9 H4 s4 hc => ?_)
              refine ⟨D, c9, _, _, rfl, rfl, s4 _ _ hu3, hc.sq, le_line (ln m q _ (by omega)), ?_⟩
              refine ⟨p + 1, _, Mth.cut (wR rows) m q, rfl, (s3.trans s4).upd_own hD, up _ _ _ _, ?_, hpm, k4, k2, fun o h => ?_, n', ?_, S2⟩
              · unfold Mth.cut
                rw [List.length_take, List.length_drop]
                omega
              · rw [drop_cut hlt, dl, c3]
                exact .left _ _ _ _ (Mth.cut_forest (wR rows) O2.f hlt) (by rw [cut_head hlt]; exact fun x => c2 (Option.some.inj x)) h
              · rw [c3, w0, Nat.zero_add] at G1
                exact G1
            · refine ifn (fun x => c3 (V.str.inj (of_decide_eq_true x))) ?_
              refine k _ _ none s3 ?_ rfl
              refine hU none ?_
              rw [dl, dm]
              exact .clash _ _ _ _ c c3 c2
      · rintro σ' H4 ⟨p2, q2, c, rfl, s4, h4, hc, h5, h6, h7, hUn, hn2⟩
        refine ⟨_, rfl, _, rfl, _, _, rfl, ?_⟩
        exact next p2 q2 c H4 s4 h4 hc h5 h6 h7 hUn hn2
    · refine ifn (by rw [List.length_map]; simp only [decide_eq_true_iff]; omega) ?_
      have eq : q = m.length := by omega
      have h0 := hU (some []) (by rw [eq, List.drop_length]; exact .nil _)
      refine ⟨_, rfl, k _ _ _ s3 h0 ⟨D, rfl, ?_⟩⟩
      show H3 D = some (.lst (sV (u ++ [])))
      rw [List.append_nil]
      exact hu3
end
end Sh
end
section
set_option Elab.async false
set_option linter.all false
set_option maxRecDepth 100000
set_option maxHeartbeats 2000000
namespace Sh
open PySem PySem.Spec PyProof.Rows L2
/-! ### lists beside the empty list -/
theorem eqvE : ∀ ds : List PyData, PyData.eqv (.list ds) (.list []) = ds.isEmpty
  | [] => by simp [PyData.eqv, PyData.eqvAll]
  | _ :: _ => by simp [PyData.eqv, PyData.eqvAll]
theorem dp_nil {K : PySem.W.Frag} {H : Hp} {a : Addr} (h : H a = some (.lst [])) : Dp K H (.ref a) (.list []) := .lst (SqL.of h) .nil
theorem dpa_map {α : Type} {K : PySem.W.Frag} {H : Hp} {f : α → V} {g : α → PyData} (h : ∀ x, Dp K H (f x) (g x)) : ∀ xs : List α, DpAll K H (xs.map f) (xs.map g)
  | [] => .nil
  | x :: r => .cons (h x) (dpa_map h r)
theorem dp_ints {K : PySem.W.Frag} {H : Hp} {a : Addr} {ns : List Int} (h : SqL K H a (ns.map V.int)) : Dp K H (.ref a) (.list (ns.map PyData.int)) := .lst h (dpa_map (fun x => .int x) ns)
theorem dpa_of {α : Type} {K : PySem.W.Frag} {H : Hp} {g : α → PyData} : ∀ {vs : List V} {xs : List α}, vs.length = xs.length → (∀ (i : Nat) (v : V) (x : α), vs[i]? = some v → xs[i]? = some x → Dp K H v (g x)) → DpAll K H vs (xs.map g)
  | [], [], _, _ => .nil
  | v :: vs, x :: xs, hl, h => .cons (h 0 v x rfl rfl) (dpa_of (by simpa using hl) fun i w y a b => h (i + 1) w y a b)
  | [], _ :: _, hl, _ => by simp at hl
  | _ :: _, [], hl, _ => by simp at hl
theorem shp_of {ds : List PyData} (h : ∀ d ∈ ds, d.canLay0 = true ∧ d.depth ≤ 63) : SeqAt.shaped (.list ds) = true := by
  have a : PyData.canLayAll0 ds = true ∧ PyData.depthAll ds ≤ 63 := by
    induction ds with
    | nil => exact ⟨rfl, by decide⟩
    | cons d r ih =>
      obtain ⟨q1, q2⟩ := h d List.mem_cons_self
      obtain ⟨i1, i2⟩ := ih fun x hx => h x (List.mem_cons_of_mem _ hx)
      refine ⟨by simp [PyData.canLayAll0, q1, i1], ?_⟩
      show max (PyData.depth d) (PyData.depthAll r) ≤ 63
      exact Nat.max_le.mpr ⟨q2, i2⟩
  have q : PyData.canLay0 (.list ds) = true := by rw [PyData.canLay0]; exact a.1
  have r : PyData.depth (.list ds) ≤ 64 := by rw [PyData.depth]; omega
  unfold SeqAt.shaped
  rw [q, decide_eq_true r]
  rfl
theorem shp_nil : SeqAt.shaped (.list []) = true := shp_of fun _ h => nomatch h
def rowD (q : Row) : PyData := .tuple [.str q.1, .int q.2]
theorem dp_rows {K : PySem.W.Frag} {H : Hp} {a : Addr} {ts : List Addr} {rows : List Row} (h : SqL K H a (ts.map V.ref)) (x : TupsAt H ts rows) : Dp K H (.ref a) (.list (rows.map rowD)) :=
  .lst h (dpa_of (by rw [List.length_map]; exact x.1) fun i v q hv hq => by
    obtain ⟨t, ht, rfl⟩ := get_map hv
    exact .tup (SqT.of (x.2 i t q ht hq)) (.cons (.str _) (.cons (.int _) .nil)))
theorem shp_rows {rows : List Row} (h : ∀ q ∈ rows, PyData.strOk q.1 = true) : SeqAt.shaped (.list (rows.map rowD)) = true := shp_of fun d hd => by
  obtain ⟨q, hq, rfl⟩ := List.mem_map.mp hd
  simp [rowD, h q hq, PyData.canLay0, PyData.canLayAll0, PyData.depth, PyData.depthAll]
theorem shp_ints (ns : List Int) : SeqAt.shaped (.list (ns.map PyData.int)) = true := shp_of fun d hd => by
  obtain ⟨q, _, rfl⟩ := List.mem_map.mp hd
  simp [PyData.canLay0, PyData.depth]
/-! ### the bag: a list of cells and three numbers -/
def bgM (c : Addr) (z1 z2 z3 : Int) : List V := [.ref c, .int z1, .int z2, .int z3]
def BagM (H : Hp) (a c : Addr) : Prop := c ≠ a ∧ ∃ z1 z2 z3, ∃ cs : List Int, H a = some (.lst (bgM c z1 z2 z3)) ∧ H c = some (.lst (cs.map V.int)) ∧ cs.length ≤ 63
theorem BagM.lsts {H : Hp} {a c : Addr} (h : BagM H a c) : (∃ ys, H a = some (.lst ys)) ∧ ∃ ys, H c = some (.lst ys) := by
  obtain ⟨n, z1, z2, z3, cs, h1, h2, _⟩ := h
  exact ⟨⟨_, h1⟩, _, h2⟩
theorem BagM.same {H H' : Hp} {a c : Addr} (h : BagM H a c) (s : Same H H') : BagM H' a c := by
  obtain ⟨n, z1, z2, z3, cs, h1, h2, l⟩ := h
  exact ⟨n, z1, z2, z3, cs, s _ _ h1, s _ _ h2, l⟩
theorem BagM.ne {a b c : Addr} {H : Hp} (hb : BagM H a c) (h : H b = none) : b ≠ a ∧ b ≠ c := by
  obtain ⟨⟨y, h1⟩, z, h2⟩ := hb.lsts
  subst_vars
  refine ⟨fun e => ?_, fun e => ?_⟩
  · rw [e, h1] at h
    cases h
  · rw [e, h2] at h
    cases h
theorem BagM.upd_ne {a p c : Addr} {H : Hp} {o : HO} (h : BagM H a c) (n : p ≠ a ∧ p ≠ c) : BagM (upd H p o) a c := by
  obtain ⟨nn, z1, z2, z3, cs, h1, h2, l⟩ := h
  exact ⟨nn, z1, z2, z3, cs, by rw [L2.upd_ne (Ne.symm n.1)]; exact h1, by rw [L2.upd_ne (Ne.symm n.2)]; exact h2, l⟩
theorem BagM.new {H : Hp} {a c p : Addr} {o : HO} (h : BagM H a c) (hp : H p = none) : BagM (upd H p o) a c := h.upd_ne (h.ne hp)
theorem TupsAt.sameR {H H' : Hp} {ts : List Addr} {rows : List Row} (x : TupsAt H ts rows) (k : Same H H') : TupsAt H' ts rows := x.keep (TK.of_same k)
theorem Kp.tkM {a c : Addr} {H H' : Hp} (x : Kp a H H') (b : BagM H a c) : TK H H' := fun t xs q => by
  refine x _ _ q fun e => ?_
  obtain ⟨⟨ys, h⟩, _⟩ := b.lsts
  rw [e, h] at q
  cases q
theorem Kp.freeM {a b : Addr} {H H' : Hp} (x : Kp a H H') (h : H' b = none) (n : b ≠ a) : H b = none := by
  cases e : H b with
  | none => rfl
  | some o => rw [x b o e n] at h; cases h
def spBagM (K : PySem.W.Frag) : Sp := fun vs H Q _ => ∃ (a : Addr) (ns : List Int), vs = [.ref a] ∧ SqL K H a (ns.map V.int) ∧ ∀ H' p c, Same H H' → H p = none → H c = none → BagM H' p c → Q (.ref p) H'
def spPick : Sp := fun vs H Q _ => ∃ (a c : Addr) (n : Int), vs = [.ref a, .int n] ∧ BagM H a c ∧ 1 ≤ n ∧ n < 1000000 ∧ ∀ H' d, Kp a H H' → BagM H' a c → 0 ≤ d → d < n → Q (.int d) H'
end Sh
end
section
set_option Elab.async false
set_option linter.all false
set_option maxRecDepth 100000
set_option maxHeartbeats 2000000
namespace Sh
open PySem PySem.Spec PyProof.Rows L2
open C8 (pss_cut tCut)
open Evl (ixN_nat)
abbrev s_law_bag : Stmt := top 42
abbrev N_law_bag : List Str := ["script", "cell"]
theorem sc_law_bag : FnScope N_law_bag ["script"] (defScope s_law_bag) := ⟨rfl, rfl, rfl, by decide +kernel, rfl, by decide +kernel, by decide +kernel⟩
abbrev s_law_pick : Stmt := top 43
abbrev N_law_pick : List Str := ["bag", "limit", "cells", "cell", "once", "twice", "digit"]
theorem sc_law_pick : FnScope N_law_pick ["bag", "limit"] (defScope s_law_pick) := ⟨rfl, rfl, rfl, by decide +kernel, rfl, by decide +kernel, by decide +kernel⟩
section
variable {P : Program} {w : World} {K : PySem.W.Frag} {mg : Str → Option Value} {base : Heap}
theorem ok_bagM (T : Bl mg) (D : Def0 K mg "_law_bag" s_law_bag) : DefOk P w K mg base CX0 1 "_law_bag" (spBagM K) := by
  refine D.ok sc_law_bag (fun vs H Q E h => ?_) (fun _ _ _ _ _ _ us hl => match us, hl with | [_], _ => rfl) (fun f cdv A outer s H vs Q E hr h => ?_)
  · obtain ⟨a, n, rfl, _⟩ := h
    rfl
  · obtain ⟨a, ns, rfl, hs, k⟩ := h
    refine ⟨_, (pss_one (ps_ret (pe_lst (pa_cons (pe_lc (own := [("cell", 1)]) (g := (gName 1)) (tt := tYes) rfl sc_law_bag.nd (pi_list (pe_slice sl_list (pv 0) po_none (po_some pe_int))) (blkOk_by (N := N_law_bag) (sc := defScope s_law_bag) (by decide +kernel)) (fun _ _ _ _ _ => (pg_name (i := 1) sc_law_bag.nd rfl (Or.inl rfl))) (fun _ _ _ _ _ => pts_nil) (fun _ _ _ _ _ => (pe_callTy call_int1 (by rfl) T.b_int (by decide +kernel) (pa_cons (pv 1) pa_nil)))) (pa_cons pe_int (pa_cons pe_int (pa_cons pe_int pa_nil))))))), ?_⟩
    refine ⟨_, rfl, _, rfl, _, _, rfl, hs, fun p hp => ?_⟩
    obtain ⟨m, hm, em⟩ : ∃ m : Nat, m ≤ 63 ∧ cutV (ns.map V.int) none (some 63) = (ns.take m).map V.int := by
      refine ⟨HT.sIx (ns.map V.int).length (ns.map V.int).length (some ((63 : Nat) : Int)), ?_, ?_⟩
      · rw [HT.sIx_nat]
        omega
      · show ((ns.map V.int).drop 0).take (_ - 0) = _
        rw [List.drop_zero, Nat.sub_zero, List.map_take]
        rfl
    have hlm : (ns.take m).length ≤ 63 := by rw [List.length_take]; omega
    generalize ns.take m = cs at em hlm
    have s1 : Same H (upd H p (.lst (cs.map V.int))) := (Same.refl H).upd_new hp
    rw [em]
    refine ⟨p, rfl, ⟨_, SqL.of upd_same⟩, fun D hD => lc_list (xs := cs.map V.int) (fun i H' => Same H H' ∧ H' p = some (.lst (cs.map V.int)) ∧ H D = none ∧ D ≠ p ∧ H' D = some (.lst ((cs.take i).map V.int)))
      ?_ (fun i H' _ ⟨_, q, _⟩ => SqL.of q) ?_ ?_⟩
    · have nDp : D ≠ p := fun e => by rw [e, upd_same] at hD; cases hD
      refine ⟨s1.upd_new hD, by rw [upd_ne (Ne.symm nDp)]; exact upd_same, s1.free hD, nDp, upd_same⟩
    · rintro i x H' hi ⟨q1, q2, q3, q4, q5⟩
      obtain ⟨n, hn, rfl⟩ := get_map hi
      refine ⟨rfl, _, rfl, .inl ⟨_, rfl, _, q5, ?_, q1.upd_own q3, by rw [upd_ne (Ne.symm q4)]; exact q2, q3, q4, ?_⟩⟩
      · rw [List.length_map, List.length_take]
        exact lt_line (by omega)
      · rw [upd_same, ← take_snoc hn, List.map_append]
        rfl
    · rintro H' ⟨q1, q2, q3, q4, q5⟩
      rw [List.length_map, List.take_length] at q5
      refine ⟨le_line (show 4 ≤ 100000 by decide), fun l hl => ?_⟩
      have nlD : l ≠ D := ne_of_none q5 hl |>.symm
      refine k _ _ _ (q1.upd_new hl) (q1.free hl) q3 ⟨Ne.symm nlD, 0, 0, 0, cs, upd_same, by rw [upd_ne (Ne.symm nlD)]; exact q5, hlm⟩
theorem ok_pick (T : Bl mg) (D : Def0 K mg "_law_pick" s_law_pick) : DefOk P w K mg base CX0 1 "_law_pick" spPick := by
  refine D.ok sc_law_pick (fun vs H Q E h => ?_) (fun _ _ _ _ _ _ us hl => match us, hl with | [_, _], _ => rfl) (fun f cdv A outer s H vs Q E hr h => ?_)
  · obtain ⟨a, c, n, rfl, _⟩ := h
    rfl
  · obtain ⟨a, c, n, rfl, ⟨nca, z1, z2, z3, cs, hb, hc, hl⟩, n1, n2, k⟩ := h
    refine ⟨_, (pss_cons (ps_asg (pe_op op_add (pe_ix ix_list (pv 0) pe_int (fun _ _ => rfl)) pe_int) (pg_sub (pv 0) pe_int set_list))
      (pss_cons (ps_set (i := 2) sc_law_pick.nd rfl (Or.inl rfl) (pe_ix ix_list (pv 0) pe_int (fun _ _ => rfl)))
      (pss_cut (ps_if (pt_cmpR op_lt (pe_ix ix_list (pv 0) pe_int (fun _ _ => rfl)) pe_int (nomark _))
        (pss_cons (ps_set (i := 3) sc_law_pick.nd rfl (Or.inl rfl) pe_int)
        (pss_cut (ps_if (pt_cmpR (op_neD hr.units) (pv 2) (pe_lst pa_nil) (nomark _))
          (pss_one (ps_set (i := 3) sc_law_pick.nd rfl (Or.inl rfl) (pe_ix ix_list (pv 2) (pe_op op_mod (pe_callTy call_int1 (by rfl) T.b_int (by decide +kernel) (pa_cons (pe_ix ix_list (pv 0) pe_int (fun _ _ => rfl)) pa_nil)) (pe_callB call_len_seq (by rfl) T.b_len boot_len (pa_cons (pv 2) pa_nil))) (fun _ _ => rfl))))
          pss_nil)
        (pss_cut (ps_if (PW.pt (pw_and (pt_cmpR op_ge (pv 3) (pe_op op_pow pe_int pe_int) (nomark _)) (pw_and1 (pt_cmpR op_lt (pe_ix ix_list (pv 0) pe_int (fun _ _ => rfl)) (pe_callB call_len_seq (by rfl) T.b_len boot_len (pa_cons (pv 2) pa_nil)) (nomark _)))))
          (pss_one (ps_asg (pe_op op_sub (pv 3) (pe_op op_pow pe_int pe_int)) (pg_sub (pv 0) pe_int set_list)))
          pss_nil)
        (pss_cons (ps_asg (pe_op op_add (pe_ix ix_list (pv 0) pe_int (fun _ _ => rfl)) pe_int) (pg_sub (pv 0) pe_int set_list))
        (pss_one (ps_if (pt_cmpR op_lt (pe_ix ix_list (pv 0) pe_int (fun _ _ => rfl)) pe_int (nomark _))
          (pss_cons (ps_set (i := 4) sc_law_pick.nd rfl (Or.inl rfl) (pe_op op_mod (pe_callTy call_int1 (by rfl) T.b_int (by decide +kernel) (pa_cons (pe_op op_add (pe_op op_add (pe_op op_mul (pv 3) pe_int) (pe_op op_mul (pe_ix ix_list (pv 0) pe_int (fun _ _ => rfl)) pe_int)) pe_int) pa_nil)) pe_int))
          (pss_cons (ps_set (i := 5) sc_law_pick.nd rfl (Or.inl rfl) (pe_op op_mod (pe_callTy call_int1 (by rfl) T.b_int (by decide +kernel) (pa_cons (pe_op op_add (pe_op op_mul (pv 4) (pe_op op_add (pe_op op_mod (pe_callTy call_int1 (by rfl) T.b_int (by decide +kernel) (pa_cons (pv 4) pa_nil)) pe_int) (pe_ix ix_list (pv 0) pe_int (fun _ _ => rfl)))) (pe_op op_mul pe_int (pe_ix ix_list (pv 0) pe_int (fun _ _ => rfl)))) pa_nil)) pe_int))
          (pss_one (ps_ret (pe_op op_mod (pe_callTy call_int1 (by rfl) T.b_int (by decide +kernel) (pa_cons (pe_op op_fdiv (pv 5) pe_int) pa_nil)) (pv 1))))))
          pss_nil))))))
        pss_nil)
      (pss_cons (ps_set (i := 6) sc_law_pick.nd rfl (Or.inl rfl) (pe_op op_mod (pe_callTy call_int1 (by rfl) T.b_int (by decide +kernel) (pa_cons (pe_ix ix_list (pv 0) pe_int (fun _ _ => rfl)) pa_nil)) (pv 1)))
      (pss_cons (ps_asg (pe_op op_fdiv (pe_ix ix_list (pv 0) pe_int (fun _ _ => rfl)) (pv 1)) (pg_sub (pv 0) pe_int set_list))
      (pss_one (ps_ret (pv 6)))))))), ?_⟩
    have mk : ∀ (H' : Hp) (y1 y2 y3 : Int), H' a = some (.lst (bgM c y1 y2 y3)) → H' c = some (.lst (cs.map V.int)) → BagM H' a c := fun H' y1 y2 y3 e1 e2 => ⟨nca, y1, y2, y3, cs, e1, e2, hl⟩
    have ix : ∀ (y1 y2 y3 : Int) (j : Nat), j < 4 → ixN (bgM c y1 y2 y3).length (j : Int) = some j := fun _ _ _ j h => ixN_nat (by show j < 4; exact h)
    refine ⟨_, rfl, a, _, _, _, rfl, rfl, SqL.of hb, atI_nat (j := 3) rfl, _, _, rfl, rfl, _, rfl, a, _, _, 3, rfl, rfl, hb, ix _ _ _ 3 (by decide), ?_⟩
    have k1 : Kp a H (upd H a (.lst (bgM c z1 z2 (z3 + 1)))) := (Kp.refl a H).upd
    have hb1 : (upd H a (.lst (bgM c z1 z2 (z3 + 1)))) a = some (.lst (bgM c z1 z2 (z3 + 1))) := upd_same
    have hc1 : (upd H a (.lst (bgM c z1 z2 (z3 + 1)))) c = some (.lst (cs.map V.int)) := k1 _ _ hc nca
    have eset : (bgM c z1 z2 z3).set 3 (.int (z3 + 1)) = bgM c z1 z2 (z3 + 1) := rfl
    generalize hH1 : upd H a (.lst (bgM c z1 z2 (z3 + 1))) = H1 at k1 hb1 hc1
    have hH1' : upd H a (.lst ((bgM c z1 z2 z3).set 3 (.int (z3 + 1)))) = H1 := by rw [eset]; exact hH1
    rw [hH1']
    refine ⟨_, rfl, a, _, _, _, rfl, rfl, SqL.of hb1, atI_nat (j := 0) rfl, ?_⟩
    generalize z3 + 1 = z at hb1
    refine ⟨fun σ H' => ∃ (u v x y : Option V) (y1 y2 y3 : Int), σ = [some (.ref a), some (.int n), some (.ref c), u, v, x, y] ∧ Kp a H H' ∧ H' a = some (.lst (bgM c y1 y2 y3)) ∧ H' c = some (.lst (cs.map V.int)), ?_, ?_⟩
    · refine ⟨_, rfl, a, _, _, _, rfl, rfl, SqL.of hb1, atI_nat (j := 2) rfl, _, _, rfl, rfl, _, rfl, ?_⟩
      refine ite2 (fun _ => ?_) (fun _ => ⟨_, _, _, _, _, _, _, rfl, k1, hb1, hc1⟩)
      refine ⟨fun σ H' => ∃ x : Int, σ = [some (.ref a), some (.int n), some (.ref c), some (.int x), none, none, none] ∧ Kp a H H' ∧ H' a = some (.lst (bgM c z1 z2 z)) ∧ H' c = some (.lst (cs.map V.int)), ?_, ?_⟩
      · refine ⟨_, rfl, le_line (show 0 ≤ 100000 by decide), fun l hl0 => ?_⟩
        have s2 : Same H1 (upd H1 l (.lst [])) := (Same.refl H1).upd_new hl0
        have hb2 := s2 _ _ hb1
        have hc2 := s2 _ _ hc1
        refine ⟨_, _, dp_ints (SqL.of hc2), dp_nil upd_same, shp_ints _, shp_nil, _, rfl, ?_⟩
        refine ite2 (fun he => ?_) (fun _ => ⟨_, rfl, k1.trans (Kp.same s2), hb2, hc2⟩)
        rw [eqvE] at he
        have hpos : 0 < cs.length := by
          cases cs with
          | nil => cases he
          | cons _ _ => exact Nat.succ_pos _
        refine ⟨_, rfl, _, rfl, a, _, _, _, rfl, rfl, SqL.of hb2, atI_nat (j := 1) rfl, .inl ⟨_, rfl, ?_⟩⟩
        have m0 := Int.emod_nonneg z1 (show (cs.length : Int) ≠ 0 by omega)
        have m1 := Int.emod_lt_of_pos z1 (show (0 : Int) < cs.length by omega)
        have hj : (z1 % (cs.length : Int)).toNat < cs.length := by omega
        refine ⟨_, rfl, c, _, rfl, .inl (SqL.of hc2), _, _, rfl, rfl, (by rw [List.length_map]; omega), c, _, _, _, rfl, rfl, SqL.of hc2, int_at (j := (z1 % (cs.length : Int)).toNat) (List.getElem?_eq_getElem hj) (by rw [List.length_map]; omega), ?_⟩
        exact ⟨_, rfl, k1.trans (Kp.same s2), hb2, hc2⟩
      · rintro σ H2 ⟨x, rfl, k2, hb2, hc2⟩
        refine ⟨fun σ H' => ∃ y2 : Int, σ = [some (.ref a), some (.int n), some (.ref c), some (.int x), none, none, none] ∧ Kp a H H' ∧ H' a = some (.lst (bgM c z1 y2 z)) ∧ H' c = some (.lst (cs.map V.int)), ?_, ?_⟩
        · refine ⟨_, rfl, _, _, rfl, rfl, ⟨by decide, by decide, by decide⟩, _, _, rfl, rfl, _, rfl, ?_⟩
          refine ite2 (fun _ => ?_) (fun _ => ⟨_, rfl, k2, hb2, hc2⟩)
          refine ⟨_, rfl, a, _, _, _, rfl, rfl, SqL.of hb2, atI_nat (j := 1) rfl, _, rfl, c, _, rfl, .inl (SqL.of hc2), _, _, rfl, rfl, _, rfl, ?_⟩
          refine ite2 (fun _ => ?_) (fun _ => ⟨_, rfl, k2, hb2, hc2⟩)
          refine ⟨_, rfl, _, _, rfl, rfl, ⟨by decide, by decide, by decide⟩, _, _, rfl, rfl, _, rfl, a, _, _, 2, rfl, rfl, hb2, ix _ _ _ 2 (by decide), ?_⟩
          exact ⟨_, rfl, k2.upd, upd_same, by rw [upd_ne nca]; exact hc2⟩
        · rintro σ H3 ⟨y2, rfl, k3, hb3, hc3⟩
          refine ⟨_, rfl, a, _, _, _, rfl, rfl, SqL.of hb3, atI_nat (j := 1) rfl, _, _, rfl, rfl, _, rfl, a, _, _, 1, rfl, rfl, hb3, ix _ _ _ 1 (by decide), ?_⟩
          have hb4 : (upd H3 a (.lst ((bgM c z1 y2 z).set 1 (.int (z1 + 1))))) a = some (.lst (bgM c (z1 + 1) y2 z)) := upd_same
          have hc4 : (upd H3 a (.lst ((bgM c z1 y2 z).set 1 (.int (z1 + 1))))) c = some (.lst (cs.map V.int)) := by rw [upd_ne nca]; exact hc3
          have k4 : Kp a H (upd H3 a (.lst ((bgM c z1 y2 z).set 1 (.int (z1 + 1))))) := k3.upd
          generalize upd H3 a (.lst ((bgM c z1 y2 z).set 1 (.int (z1 + 1)))) = H4 at hb4 hc4 k4
          refine ⟨_, rfl, a, _, _, _, rfl, rfl, SqL.of hb4, atI_nat (j := 2) rfl, _, _, rfl, rfl, _, rfl, ?_⟩
          refine ite2 (fun _ => ?_) (fun _ => ⟨_, _, _, _, _, _, _, rfl, k4, hb4, hc4⟩)
          refine ⟨_, rfl, _, _, rfl, rfl, .inr ⟨by decide, by decide⟩, _, rfl, a, _, _, _, rfl, rfl, SqL.of hb4, atI_nat (j := 3) rfl, _, _, rfl, rfl, .inr ⟨by decide, by decide⟩, _, _, rfl, rfl, _, _, rfl, rfl, .inl ⟨_, rfl, ?_⟩⟩
          refine ⟨_, _, rfl, rfl, (show (0 : Int) < 2147483647 by decide), ?_⟩
          have m0 := Int.emod_nonneg (x * 48271 + z * 69621 + 7) (show (2147483647 : Int) ≠ 0 by decide)
          have m1 := Int.emod_lt_of_pos (x * 48271 + z * 69621 + 7) (show (0 : Int) < 2147483647 by decide)
          generalize (x * 48271 + z * 69621 + 7) % 2147483647 = o at m0 m1
          refine ⟨_, rfl, _, rfl, .inl ⟨_, rfl, ?_⟩⟩
          refine ⟨_, _, rfl, rfl, (show (0 : Int) < 65537 by decide), _, rfl, a, _, _, _, rfl, rfl, SqL.of hb4, atI_nat (j := 3) rfl, _, _, rfl, rfl, _, _, rfl, rfl, .inl ⟨by omega, by omega⟩, _, rfl, a, _, _, _, rfl, rfl, SqL.of hb4, atI_nat (j := 3) rfl, _, _, rfl, rfl, .inl ⟨by decide, by decide⟩, _, _, rfl, rfl, .inl ⟨_, rfl, ?_⟩⟩
          refine ⟨_, _, rfl, rfl, (show (0 : Int) < 2147483629 by decide), ?_⟩
          refine ⟨_, rfl, _, _, rfl, rfl, ⟨by decide, by decide⟩, .inl ⟨_, rfl, ?_⟩⟩
          refine ⟨_, rfl, _, _, rfl, rfl, (show (0 : Int) < n by omega), ?_⟩
          exact k _ _ k4 (mk _ _ _ _ hb4 hc4) (Int.emod_nonneg _ (by omega)) (Int.emod_lt_of_pos _ (by omega))
    · rintro σ H5 ⟨u, v, x, y, y1, y2, y3, rfl, k5, hb5, hc5⟩
      refine ⟨_, rfl, a, _, _, _, rfl, rfl, SqL.of hb5, atI_nat (j := 2) rfl, .inl ⟨_, rfl, ?_⟩⟩
      refine ⟨_, rfl, _, _, rfl, rfl, (show (0 : Int) < n by omega), ?_⟩
      refine ⟨_, rfl, a, _, _, _, rfl, rfl, SqL.of hb5, atI_nat (j := 2) rfl, _, rfl, _, _, rfl, rfl, ⟨by omega, by omega⟩, _, rfl, a, _, _, 2, rfl, rfl, hb5, ix _ _ _ 2 (by decide), ?_⟩
      refine ⟨_, rfl, ?_⟩
      exact k _ _ k5.upd (mk _ _ _ _ upd_same (by rw [upd_ne nca]; exact hc5)) (Int.emod_nonneg _ (by omega)) (Int.emod_lt_of_pos _ (by omega))
end
end Sh
end
section
set_option Elab.async false
set_option linter.all false
set_option maxRecDepth 100000
set_option maxHeartbeats 2000000
namespace Sh
open PySem PySem.Spec PyProof.Rows L2
open TL (tl joinL tl_join join_eq tl_append)
open C8 (pss_cut tCut)
open Evl (ixN_nat)
theorem app_sg (x : Str) (c : Nat) : (x ++ sg c).cps.toList = x.cps.toList ++ [c] := tl_append x (sg c)
theorem app_tl (x y : Str) : (x ++ y).cps.toList = x.cps.toList ++ y.cps.toList := tl_append x y
theorem size_tl (x : Str) : x.cps.size = x.cps.toList.length := (Array.length_toList).symm
theorem cutS_to (z : Str) {j : Nat} (h : j ≤ z.cps.size) : (cutS z none (some (j : Int))).cps.toList = z.cps.toList.take j := by
  have h1 : HT.sIx z.length 0 none = 0 := rfl
  have h2 : HT.sIx z.length z.length (some (j : Int)) = j := by
    rw [HT.sIx_nat, str_len]
    omega
  unfold cutS
  rw [h1, h2]
  simp
theorem cutS_from (z : Str) {j : Nat} (h : j ≤ z.cps.size) : (cutS z (some (j : Int)) none).cps.toList = z.cps.toList.drop j := by
  have h1 : HT.sIx z.length 0 (some (j : Int)) = j := by
    rw [HT.sIx_nat, str_len]
    omega
  have h2 : HT.sIx z.length z.length none = z.cps.toList.length := by rw [← size_tl]; rfl
  unfold cutS
  rw [h1, h2]
  show (List.take _ (List.drop j z.cps.toList)).toArray.toList = _
  rw [List.toList_toArray]
  exact List.take_of_length_le (by rw [List.length_drop]; exact Nat.le_refl _)
/-- a word with another letter at a place -/
def sw (z : Str) (j c : Nat) : Str := cutS z none (some (j : Int)) ++ sg c ++ cutS z (some ((j : Int) + 1)) none
theorem sw_tl (z : Str) {j c : Nat} (h : j < z.cps.size) : (sw z j c).cps.toList = z.cps.toList.take j ++ [c] ++ z.cps.toList.drop (j + 1) := by
  unfold sw
  rw [app_tl, app_sg, cutS_to z (Nat.le_of_lt h), show ((j : Int) + 1) = ((j + 1 : Nat) : Int) by omega, cutS_from z h]
theorem sw_nm {z : Str} {j c : Nat} (hz : IsNm z) (h : j < z.cps.size) (hc : 97 ≤ c ∧ c ≤ 122) : IsNm (sw z j c) := by
  have e := sw_tl z (c := c) h
  have el : (sw z j c).cps.size = z.cps.size := by
    rw [size_tl, e, List.length_append, List.length_append, List.length_take, List.length_drop, ← size_tl]
    simp
    omega
  refine ⟨by rw [el]; exact hz.1, by rw [el]; exact hz.2.1, fun x hx => ?_⟩
  rw [e] at hx
  rcases List.mem_append.mp hx with q | q
  · rcases List.mem_append.mp q with q | q
    · exact hz.2.2 x (List.mem_of_mem_take q)
    · rw [List.mem_singleton.mp q]
      exact hc
  · exact hz.2.2 x (List.mem_of_mem_drop q)
theorem sw_inj {z : Str} {j c d : Nat} (h : j < z.cps.size) (e : sw z j c = sw z j d) : c = d := by
  have q := congrArg (fun s : Str => s.cps.toList[j]?) e
  simp only [sw_tl z h] at q
  have hl : (z.cps.toList.take j).length = j := by rw [List.length_take, ← size_tl]; omega
  have r : ∀ x : Nat, (z.cps.toList.take j ++ [x] ++ z.cps.toList.drop (j + 1))[j]? = some x := fun x => by
    rw [List.append_assoc, List.getElem?_append_right (by omega), hl, Nat.sub_self]
    rfl
  rw [r, r] at q
  exact Option.some.inj q
def five : List Str := ["q", "w", "e", "r", "t"]
theorem five_nm : ∀ y ∈ five, IsNm y := by
  intro y hy
  have h : five.all (fun y => decide (1 ≤ y.cps.size ∧ y.cps.size ≤ 8) && y.cps.toList.all fun c => decide (97 ≤ c ∧ c ≤ 122)) = true := by decide +kernel
  have q := List.all_eq_true.mp h y hy
  obtain ⟨q1, q2⟩ := Bool.and_eq_true_iff.mp q
  have q1 := of_decide_eq_true q1
  exact ⟨q1.1, q1.2, fun c hc => of_decide_eq_true (List.all_eq_true.mp q2 c hc)⟩
def spWordM : Sp := fun vs H Q _ => ∃ a c, vs = [.ref a] ∧ BagM H a c ∧ ∀ H' z, Kp a H H' → BagM H' a c → IsNm z → Q (.str z) H'
def spWordsM : Sp := fun vs H Q _ => ∃ (a c : Addr) (m : Nat), vs = [.ref a, .int (m : Nat)] ∧ BagM H a c ∧ m ≤ 4 ∧ ∀ (H' : Hp) (r : Addr) (ns : List Str), Kp a H H' → BagM H' a c → H r = none → r ≠ a → r ≠ c → H' r = some (.lst (ns.map V.str)) → ns.length = m → ns.Nodup → (∀ n ∈ ns, IsNm n) → Q (.ref r) H'
abbrev s_law_word : Stmt := top 44
abbrev N_law_word : List Str := ["bag", "letters", "word", "k"]
theorem sc_law_word : FnScope N_law_word ["bag"] (defScope s_law_word) := ⟨rfl, rfl, rfl, by decide +kernel, rfl, by decide +kernel, by decide +kernel⟩
abbrev s_law_words : Stmt := top 45
abbrev N_law_words : List Str := ["bag", "many", "letters", "words", "word", "at", "first", "k", "one"]
theorem sc_law_words : FnScope N_law_words ["bag", "many"] (defScope s_law_words) := ⟨rfl, rfl, rfl, by decide +kernel, rfl, by decide +kernel, by decide +kernel⟩
section
variable {P : Program} {w : World} {K : PySem.W.Frag} {mg : Str → Option Value} {base : Heap}
theorem ok_wordM (T : Bl mg) (c_law_pick : DefOk P w K mg base CX0 1 "_law_pick" spPick) (D : Def0 K mg "_law_word" s_law_word) : DefOk P w K mg base CX0 2 "_law_word" spWordM := by
  refine D.ok sc_law_word (fun vs H Q E h => ?_) (fun _ _ _ _ _ _ us hl => match us, hl with | [_], _ => rfl) (fun f cdv A outer s H vs Q E hr h => ?_)
  · obtain ⟨a, c, rfl, _⟩ := h
    rfl
  · obtain ⟨a, c, rfl, hb, k⟩ := h
    refine ⟨_, (pss_cons (ps_set (i := 1) sc_law_word.nd rfl (Or.inl rfl) pe_str)
      (pss_cons (ps_set (i := 2) sc_law_word.nd rfl (Or.inl rfl) pe_str)
      (pss_cons (ps_for PassesOwn.never rfl (pi_range1 (by rfl) T.b_range (pa_cons (pe_op op_add pe_int (pe_d c_law_pick (hr.mono (by decide)) pass0 (pa_cons (pv 0) (pa_cons pe_int pa_nil)))) pa_nil)) (pg_name (i := 3) sc_law_word.nd rfl (Or.inl rfl))
        (pss_one (ps_set (i := 2) sc_law_word.nd rfl (Or.inl rfl) (pe_op op_add_str (pv 2) (pe_ix ix_str (pv 1) (pe_d c_law_pick (hr.mono (by decide)) pass0 (pa_cons (pv 0) (pa_cons pe_int pa_nil))) (fun _ _ => rfl))))))
      (pss_one (ps_ret (pv 2)))))), ?_⟩
    refine ⟨_, rfl, a, c, 8, rfl, hb, by decide, by decide, fun H1 d k1 b1 d0 d8 => ?_⟩
    refine ⟨_, _, rfl, rfl, _, rfl, by omega, by omega, for_range (n := (1 + d).toNat) (fun i σ H' => ∃ (x : Option V) (z : Str), σ = [some (.ref a), some (.str "abcdefghijklmnopqrstuvwxyz"), some (.str z), x] ∧ Kp a H H' ∧ BagM H' a c ∧ z.cps.size = i ∧ ∀ c ∈ z.cps.toList, 97 ≤ c ∧ c ≤ 122)
      ⟨none, "", rfl, k1, b1, rfl, fun c hc => nomatch hc⟩ ?_ ?_⟩
    · rintro i σ H2 hi ⟨x, z, rfl, k2, b2, hz, hc⟩
      refine ⟨_, rfl, _, rfl, _, rfl, a, c, 26, rfl, b2, by decide, by decide, fun H3 e k3 b3 e0 e1 => ?_⟩
      refine ⟨_, _, 97 + e.toNat, rfl, rfl, (by rw [letters_len]; exact le_line (by decide)), at_ofG (z := e) (j := e.toNat) (by omega) (letters_at e.toNat (by omega)), _, _, rfl, rfl, ?_, ?_⟩
      · exact le_line (by rw [str_len, hz]; show i + 1 ≤ _; omega)
      · refine ⟨_, _, rfl, k2.trans k3, b3, ?_, fun y hy => ?_⟩
        · have q := app_sg z (97 + e.toNat)
          rw [size_tl]
          show (z ++ sg (97 + e.toNat)).cps.toList.length = _
          rw [q, List.length_append, ← size_tl, hz]
          rfl
        · have q := app_sg z (97 + e.toNat)
          have hy : y ∈ (z ++ sg (97 + e.toNat)).cps.toList := hy
          rw [q] at hy
          rcases List.mem_append.mp hy with u | u
          · exact hc y u
          · rw [List.mem_singleton.mp u]
            omega
    · rintro σ H2 ⟨x, z, rfl, k2, b2, hz, hc⟩
      exact ⟨_, rfl, k _ _ k2 b2 ⟨by rw [hz]; omega, by rw [hz]; omega, hc⟩⟩
theorem ok_wordsM (T : Bl mg) (c_law_pick : DefOk P w K mg base CX0 1 "_law_pick" spPick) (c_law_word : DefOk P w K mg base CX0 2 "_law_word" spWordM) (D : Def0 K mg "_law_words" s_law_words) : DefOk P w K mg base CX0 3 "_law_words" spWordsM := by
  refine D.ok sc_law_words (fun vs H Q E h => ?_) (fun _ _ _ _ _ _ us hl => match us, hl with | [_, _], _ => rfl) (fun f cdv A outer s H vs Q E hr h => ?_)
  · obtain ⟨a, c, m, rfl, _⟩ := h
    rfl
  · obtain ⟨a, c, m, rfl, hb, hm, k⟩ := h
    refine ⟨_, (pss_cons (ps_set (i := 2) sc_law_words.nd rfl (Or.inl rfl) pe_str)
      (pss_cons (ps_set (i := 3) sc_law_words.nd rfl (Or.inr rfl) (pe_lst pa_nil))
      (pss_cons (ps_if (pt_cmpR op_eq (pe_d c_law_pick (hr.mono (by decide)) pass0 (pa_cons (pv 0) (pa_cons pe_int pa_nil))) pe_int (nomark _))
        (pss_cons (ps_set (i := 4) sc_law_words.nd rfl (Or.inl rfl) (pe_d c_law_word (hr.mono (by decide)) pass0 (pa_cons (pv 0) pa_nil)))
        (pss_cons (ps_set (i := 5) sc_law_words.nd rfl (Or.inl rfl) (pe_d c_law_pick (hr.mono (by decide)) pass0 (pa_cons (pv 0) (pa_cons (pe_callB call_len_str (by rfl) T.b_len boot_len (pa_cons (pv 4) pa_nil)) pa_nil))))
        (pss_cons (ps_set (i := 6) sc_law_words.nd rfl (Or.inl rfl) (pe_d c_law_pick (hr.mono (by decide)) pass0 (pa_cons (pv 0) (pa_cons pe_int pa_nil))))
        (pss_cons (ps_for PassesOwn.never rfl (pi_range1 (by rfl) T.b_range (pa_cons (pv 1) pa_nil)) (pg_name (i := 7) sc_law_words.nd rfl (Or.inl rfl))
          (pss_one (ps_expr (pe_bm PySem.F.plainAttrs_list PySem.F.slot_list_append PySem.F.type_list_append mt_append (pv 3) (pa_cons (pe_op op_add_str (pe_op op_add_str (pe_slice sl_str (pv 4) po_none (po_some (pv 5))) (pe_ix ix_str (pv 2) (pe_op op_mod (pe_callTy call_int1 (by rfl) T.b_int (by decide +kernel) (pa_cons (pe_op op_add (pv 6) (pe_op op_mul pe_int (pv 7))) pa_nil)) pe_int) (fun _ _ => rfl))) (pe_slice sl_str (pv 4) (po_some (pe_op op_add (pv 5) pe_int)) po_none)) pa_nil)))))
        (pss_one (ps_ret (pv 3)))))))
        pss_nil)
      (pss_cons (ps_for PassesOwn.never rfl (pi_range1 (by rfl) T.b_range (pa_cons (pv 1) pa_nil)) (pg_name (i := 7) sc_law_words.nd rfl (Or.inl rfl))
        (pss_cons (ps_set (i := 4) sc_law_words.nd rfl (Or.inl rfl) (pe_d c_law_word (hr.mono (by decide)) pass0 (pa_cons (pv 0) pa_nil)))
        (pss_cut (ps_if (pt_cmpR op_in_seq (pv 4) (pv 3) (by rfl))
          (pss_one (ps_set (i := 4) sc_law_words.nd rfl (Or.inl rfl) (pe_ix ix_list (pe_lc (own := [("one", 8)]) (g := (gName 8)) rfl sc_law_words.nd (pi_tup (pe_tup (pa_cons pe_str (pa_cons pe_str (pa_cons pe_str (pa_cons pe_str (pa_cons pe_str pa_nil))))))) (blkOk_by (N := N_law_words) (sc := defScope s_law_words) (by decide +kernel)) (fun _ _ _ _ _ => (pg_name (i := 8) sc_law_words.nd rfl (Or.inl rfl))) (fun _ _ _ _ _ => (pts_one (pt_cmpR (show OpR _ _ (rIn K true) from op_notIn_seq) (pv 8) (pv 3) (by rfl)))) (fun _ _ _ _ _ => (pv 8))) pe_int (fun _ _ => rfl))))
          pss_nil)
        (pss_one (ps_expr (pe_bm PySem.F.plainAttrs_list PySem.F.slot_list_append PySem.F.type_list_append mt_append (pv 3) (pa_cons (pv 4) pa_nil)))))))
      (pss_one (ps_ret (pv 3))))))), ?_⟩
    refine ⟨Nat.zero_le _, fun l1 h1 => ?_⟩
    have nl := hb.ne h1
    have b0 := hb.new (o := .lst []) h1
    have k0 : Kp a H (upd H l1 (.lst [])) := (Kp.refl a H).upd_own h1
    have d0 : (upd H l1 (.lst [])) l1 = some (.lst (([] : List Str).map V.str)) := upd_same
    refine ⟨_, rfl, a, c, 2, rfl, b0, by decide, by decide, fun H1 e k1 b1 e0 e2 => ?_⟩
    have k01 := k0.trans k1
    have d1 := k1 _ _ d0 nl.1
    refine ⟨rfl, _, rfl, ite2 (fun _ => ?_) (fun _ => ?_)⟩
    · refine ⟨_, rfl, a, c, rfl, b1, fun H2 z k2 b2 hz => ?_⟩
      refine ⟨_, rfl, _, rfl, _, rfl, nm_line hz, a, c, (z.length : Int), rfl, b2, by have := hz.1; rw [str_len]; omega, by have := hz.2.1; rw [str_len]; omega, fun H3 j k3 b3 j0 j1 => ?_⟩
      obtain ⟨j, rfl⟩ := Int.eq_ofNat_of_zero_le j0
      have hj : j < z.cps.size := by rw [str_len] at j1; omega
      refine ⟨_, rfl, a, c, 26, rfl, b3, by decide, by decide, fun H4 g k4 b4 g0 g1 => ?_⟩
      obtain ⟨g, rfl⟩ := Int.eq_ofNat_of_zero_le g0
      have k04 := ((k01.trans k2).trans k3).trans k4
      have d4 := k4 _ _ (k3 _ _ (k2 _ _ d1 nl.1) nl.1) nl.1
      have gl : ∀ i : Nat, 97 ≤ 97 + (g + 5 * i) % 26 ∧ 97 + (g + 5 * i) % 26 ≤ 122 := fun i => by omega
      refine ⟨_, rfl, _, rfl, by omega, by omega, for_range (n := m) (fun i σ H' => ∃ x : Option V, σ = [some (.ref a), some (.int (m : Nat)), some (.str "abcdefghijklmnopqrstuvwxyz"), some (.ref l1), some (.str z), some (.int (j : Nat)), some (.int (g : Nat)), x, none] ∧ Kp a H H' ∧ BagM H' a c ∧ H' l1 = some (.lst (((List.range i).map fun i => sw z j (97 + (g + 5 * i) % 26)).map V.str)))
        ⟨none, rfl, k04, b4, d4⟩ ?_ ?_⟩
      · rintro i σ H5 hi ⟨x, rfl, k5, b5, d5⟩
        refine ⟨_, rfl, .inl ⟨rfl, _, SqL.of d5⟩, _, rfl, _, rfl, _, rfl, _, rfl, nm_line hz, _, rfl, _, rfl, _, rfl, _, _, rfl, rfl, .inl ⟨by decide, by decide⟩, _, _, rfl, rfl, .inl ⟨_, rfl, ?_⟩⟩
        have eg : ((g : Int) + 5 * (0 + (i : Nat))) % 26 = (((g + 5 * i) % 26 : Nat) : Int) := by omega
        have e1 := cutS_to z (Nat.le_of_lt hj)
        have z1 : (cutS z none (some (j : Int))).cps.size = j := by rw [size_tl, e1, List.length_take, ← size_tl]; omega
        have hz8 := hz.2.1
        refine ⟨_, _, rfl, rfl, (show (0 : Int) < 26 by decide), _, _, 97 + (g + 5 * i) % 26, rfl, rfl, (by rw [letters_len]; exact le_line (by decide)), ?_, ?_⟩
        · exact at_ofG eg (letters_at _ (by omega))
        refine ⟨_, _, rfl, rfl, le_line ?_, ?_⟩
        · rw [str_len, z1]
          show j + 1 ≤ _
          omega
        refine ⟨_, rfl, _, rfl, _, _, rfl, rfl, _, rfl, _, rfl, nm_line hz, ?_⟩
        have hw := sw_nm hz hj (gl i)
        refine ⟨_, _, rfl, rfl, le_line ?_, ?_⟩
        · have q := hw.2.1
          have q2 : (sw z j (97 + (g + 5 * i) % 26)).cps.size = (cutS z none (some (j : Int)) ++ sg (97 + (g + 5 * i) % 26)).cps.size + (cutS z (some ((j : Int) + 1)) none).cps.size := by
            unfold sw
            rw [size_tl, app_tl, List.length_append, ← size_tl, ← size_tl]
          show (cutS z none (some (j : Int)) ++ sg (97 + (g + 5 * i) % 26)).cps.size + (cutS z (some ((j : Int) + 1)) none).cps.size ≤ _
          omega
        refine ⟨l1, _, _, rfl, rfl, d5, lt_line (by rw [List.length_map, List.length_map, List.length_range]; omega), ?_⟩
        refine ⟨_, rfl, k5.upd_own h1, b5.upd_ne nl, ?_⟩
        rw [upd_same, List.range_succ, List.map_append, List.map_append]
        rfl
      · rintro σ H5 ⟨x, rfl, k5, b5, d5⟩
        refine ⟨_, rfl, k _ _ _ k5 b5 h1 nl.1 nl.2 d5 (by rw [List.length_map, List.length_range]) ?_ ?_⟩
        · refine List.pairwise_map.mpr (List.Pairwise.imp_of_mem (fun {x y} hx hy ne e => ?_) List.nodup_range)
          have hx := List.mem_range.mp hx
          have hy := List.mem_range.mp hy
          have q := sw_inj hj e
          omega
        · intro n hn
          obtain ⟨i, _, rfl⟩ := List.mem_map.mp hn
          exact sw_nm hz hj (gl i)
    · refine ⟨_, rfl, _, rfl, by omega, by omega, for_range (n := m) (fun i σ H' => ∃ (x y : Option V) (ns : List Str), σ = [some (.ref a), some (.int (m : Nat)), some (.str "abcdefghijklmnopqrstuvwxyz"), some (.ref l1), x, none, none, y, none] ∧ Kp a H H' ∧ BagM H' a c ∧ H' l1 = some (.lst (ns.map V.str)) ∧ ns.length = i ∧ ns.Nodup ∧ ∀ n ∈ ns, IsNm n)
        ⟨none, none, [], rfl, k01, b1, d1, rfl, List.nodup_nil, fun n hn => nomatch hn⟩ ?_ ?_⟩
      · rintro i σ H5 hi ⟨x, y, ns, rfl, k5, b5, d5, hl, nd, hn⟩
        refine ⟨_, rfl, a, c, rfl, b5, fun H6 z k6 b6 hz => ?_⟩
        have d6 := k6 _ _ d5 nl.1
        have k06 := k5.trans k6
        refine ⟨fun σ H' => ∃ z : Str, σ = [some (.ref a), some (.int (m : Nat)), some (.str "abcdefghijklmnopqrstuvwxyz"), some (.ref l1), some (.str z), none, none, some (.int (0 + (i : Nat))), none] ∧ Kp a H H' ∧ BagM H' a c ∧ H' l1 = some (.lst (ns.map V.str)) ∧ z ∉ ns ∧ IsNm z, ?_, ?_⟩
        · refine ⟨_, rfl, _, rfl, l1, _, rfl, .inl (SqL.of d6), rfl, flat_strs ns, _, rfl, ?_⟩
          rw [inV_str]
          refine ite2 (fun h0 => ?_) (fun h0 => ⟨_, rfl, k06, b6, d6, fun q => h0 (decide_eq_true q), hz⟩)
          refine ⟨le_line (show 5 ≤ 100000 by decide), fun t ht => ?_⟩
          have s7 : Same H6 (upd H6 t (.tup (five.map V.str))) := (Same.refl H6).upd_new ht
          have ht0 : (upd H6 t (.tup (five.map V.str))) t = some (.tup (five.map V.str)) := upd_same
          have b7 := b6.same s7
          have d7 := s7 _ _ d6
          have k7 : Kp a H (upd H6 t (.tup (five.map V.str))) := k06.trans (Kp.same s7)
          have eg : HO.tup [V.str "q", V.str "w", V.str "e", V.str "r", V.str "t"] = .tup (five.map V.str) := rfl
          rw [eg]
          generalize upd H6 t (.tup (five.map V.str)) = H7 at s7 ht0 b7 d7 k7
          refine ⟨t, rfl, ⟨_, SqT.of ht0⟩, fun D hD => ?_⟩
          have nD := b7.ne hD
          have nDl : l1 ≠ D := ne_of_none d7 hD
          have hD0 : H D = none := k7.freeM hD nD.1
          refine lc_it (walk_tup (xs := five.map V.str)) (fun i H' => Kp a H H' ∧ BagM H' a c ∧ H' l1 = some (.lst (ns.map V.str)) ∧ H' t = some (.tup (five.map V.str)) ∧ H' D = some (.lst (((five.take i).filter fun y => decide (y ∉ ns)).map V.str)))
            ⟨k7.upd_new hD, b7.new hD, by rw [upd_ne nDl]; exact d7, by rw [upd_ne (ne_of_none ht0 hD)]; exact ht0, upd_same⟩ (fun _ _ _ ⟨_, _, _, q, _⟩ => SqT.of q) ?_ ?_
          · rintro i v H8 H9 hi ⟨q1, q2, q3, q4, q5⟩ ⟨rfl, hv⟩
            obtain ⟨y, hy, rfl⟩ := get_map hv
            refine ⟨rfl, _, rfl, _, rfl, l1, _, rfl, .inl (SqL.of q3), rfl, flat_strs ns, _, rfl, ?_⟩
            have ez : (!inV (V.str y) (ns.map V.str)) = decide (y ∉ ns) := by
              rw [inV_str]
              simp
            have et : (five.take (i + 1)).filter (fun y => decide (y ∉ ns)) = (five.take i).filter (fun y => decide (y ∉ ns)) ++ (if decide (y ∉ ns) = true then [y] else []) := by
              rw [← take_snoc hy, List.filter_append, List.filter_cons, List.filter_nil]
            show if (!inV (V.str y) (ns.map V.str)) = true then _ else _
            rw [ez]
            refine ite2 (fun h2 => ?_) (fun h2 => ?_)
            · refine ⟨_, rfl, _, q5, ?_, q1.upd_own hD0, q2.upd_ne nD, by rw [upd_ne nDl]; exact q3, by rw [upd_ne (ne_of_none ht0 hD)]; exact q4, ?_⟩
              · rw [List.length_map]
                refine lt_line (Nat.le_trans (List.length_filter_le _ _) ?_)
                rw [List.length_take]
                show min i 5 ≤ _
                omega
              · rw [upd_same, et, if_pos h2, List.map_append]
                rfl
            · refine ⟨q1, q2, q3, q4, ?_⟩
              rw [et, if_neg h2, List.append_nil]
              exact q5
          · rintro H9 ⟨q1, q2, q3, q4, q5⟩
            rw [show five.take (five.map V.str).length = five from rfl] at q5
            cases hf : five.filter (fun y => decide (y ∉ ns)) with
            | nil =>
              have hall : ∀ y ∈ five, y ∈ ns := fun y hy => by
                refine Classical.byContradiction fun c => ?_
                have : y ∈ five.filter (fun y => decide (y ∉ ns)) := List.mem_filter.mpr ⟨hy, decide_eq_true c⟩
                rw [hf] at this
                cases this
              have := sub_len five ns (by decide +kernel) hall
              have e5 : five.length = 5 := rfl
              omega
            | cons y r =>
              rw [hf] at q5
              have hy : y ∈ five.filter (fun y => decide (y ∉ ns)) := by rw [hf]; exact List.mem_cons_self
              obtain ⟨y1, y2⟩ := List.mem_filter.mp hy
              exact ⟨D, _, _, _, rfl, rfl, SqL.of q5, atI_nat (j := 0) rfl, y, rfl, q1, q2, q3, of_decide_eq_true y2, five_nm y y1⟩
        · rintro σ H7 ⟨z, rfl, k7, b7, d7, nz, hz⟩
          refine ⟨_, rfl, .inl ⟨rfl, _, SqL.of d7⟩, _, rfl, l1, _, _, rfl, rfl, d7, lt_line (by rw [List.length_map]; omega), ?_⟩
          refine ⟨_, _, ns ++ [z], rfl, k7.upd_own h1, b7.upd_ne nl, by rw [upd_same, List.map_append]; rfl, by rw [List.length_append, hl]; rfl, ?_, ?_⟩
          · rw [List.nodup_append]
            exact ⟨nd, (List.nodup_cons.mpr ⟨List.not_mem_nil, List.nodup_nil⟩), fun u hu v hv e => nz (by rw [List.mem_singleton.mp hv] at e; rw [← e]; exact hu)⟩
          · intro n hn2
            rcases List.mem_append.mp hn2 with q | q
            · exact hn n q
            · rw [List.mem_singleton.mp q]; exact hz
      · rintro σ H5 ⟨x, y, ns, rfl, k5, b5, d5, hl, nd, hn⟩
        exact ⟨_, rfl, k _ _ _ k5 b5 h1 nl.1 nl.2 d5 hl nd hn⟩
end
end Sh
end
section
set_option Elab.async false
set_option linter.all false
set_option maxRecDepth 100000
set_option maxHeartbeats 2000000
namespace Sh
open PySem PySem.Spec PyProof.Rows L2
open C8 (pss_cut tCut)
open Evl (ixN_nat)
theorem two_of (e : Int) (h0 : 0 ≤ e) (h : e < 4) : ∃ y, ([V.int 2, V.int 4, V.int 3, V.int 3] : List V)[e.toNat]? = some (.int y) ∧ 2 ≤ y ∧ y ≤ 4 := by
  have hh : ∀ j, j < 4 → ∃ y, ([V.int 2, V.int 4, V.int 3, V.int 3] : List V)[j]? = some (.int y) ∧ 2 ≤ y ∧ y ≤ 4 := by
    intro j hj
    match j, hj with
    | 0, _ => exact ⟨2, rfl, by decide, by decide⟩
    | 1, _ => exact ⟨4, rfl, by decide, by decide⟩
    | 2, _ => exact ⟨3, rfl, by decide, by decide⟩
    | 3, _ => exact ⟨3, rfl, by decide, by decide⟩
    | n + 4, h => exact absurd h (by omega)
  exact hh e.toNat (by omega)
theorem wid_of (e : Int) (h0 : 0 ≤ e) (h : e < 7) : ∃ y, ([V.int 0, V.int 2, V.int 1, V.int 2, V.int 1, V.int 0, V.int 3] : List V)[e.toNat]? = some (.int y) ∧ 0 ≤ y ∧ y ≤ 3 := by
  have hh : ∀ j, j < 7 → ∃ y, ([V.int 0, V.int 2, V.int 1, V.int 2, V.int 1, V.int 0, V.int 3] : List V)[j]? = some (.int y) ∧ 0 ≤ y ∧ y ≤ 3 := by
    intro j hj
    match j, hj with
    | 0, _ => exact ⟨0, rfl, by decide, by decide⟩
    | 1, _ => exact ⟨2, rfl, by decide, by decide⟩
    | 2, _ => exact ⟨1, rfl, by decide, by decide⟩
    | 3, _ => exact ⟨2, rfl, by decide, by decide⟩
    | 4, _ => exact ⟨1, rfl, by decide, by decide⟩
    | 5, _ => exact ⟨0, rfl, by decide, by decide⟩
    | 6, _ => exact ⟨3, rfl, by decide, by decide⟩
    | n + 7, h => exact absurd h (by omega)
  exact hh e.toNat (by omega)
def spKindsM : Sp := fun vs H Q _ => ∃ (a c : Addr), vs = [.ref a] ∧ BagM H a c ∧ ∀ (H' : Hp) (r : Addr) (rows : List Row), Kp a H H' → BagM H' a c → H r = none → r ≠ a → r ≠ c → RowsAt H' r rows → ROk 4 rows → 2 ≤ rows.length → Q (.ref r) H'
def spArity : Sp := fun vs H Q _ => ∃ (r : Addr) (rows : List Row), vs = [.ref r] ∧ RowsAt H r rows ∧ ROk 4 rows ∧ ∀ (H' : Hp) (d : Addr), Same H H' → H d = none → H' d = some (.dK (wL rows)) → Q (.ref d) H'
def spBedM (C : Addr) : Sp := fun vs H Q _ => ∃ (r : Addr) (rows : List Row), vs = [.ref r] ∧ RowsAt H r rows ∧ ROk 4 rows ∧ 2 ≤ rows.length ∧ ∀ H' p, Same H H' → H p = none → BedAt C H' p rows → Q (.ref p) H'
theorem ROk.up {rows : List Row} (R : ROk 4 rows) : ROk 8 rows := ⟨R.pos, by have := R.len; omega, R.nd, R.nm, R.wd, R.leaf⟩
abbrev s_law_kinds : Stmt := top 46
abbrev N_law_kinds : List Str := ["bag", "counts", "k", "count", "words"]
theorem sc_law_kinds : FnScope N_law_kinds ["bag"] (defScope s_law_kinds) := ⟨rfl, rfl, rfl, by decide +kernel, rfl, by decide +kernel, by decide +kernel⟩
abbrev s_law_arity : Stmt := top 47
abbrev N_law_arity : List Str := ["kinds", "arity", "pair"]
theorem sc_law_arity : FnScope N_law_arity ["kinds"] (defScope s_law_arity) := ⟨rfl, rfl, rfl, by decide +kernel, rfl, by decide +kernel, by decide +kernel⟩
abbrev s_law_bed : Stmt := top 48
abbrev N_law_bed : List Str := ["kinds"]
theorem sc_law_bed : FnScope N_law_bed ["kinds"] (defScope s_law_bed) := ⟨rfl, rfl, rfl, by decide +kernel, rfl, by decide +kernel, by decide +kernel⟩
section
variable {P : Program} {w : World} {K : PySem.W.Frag} {mg : Str → Option Value} {base : Heap} {C : Addr}
theorem ok_bedM (T : Bl mg) (c_Bed : BedOk P w K mg base C 5) (D : Def0 K mg "_law_bed" s_law_bed) : DefOk P w K mg base CX0 7 "_law_bed" (spBedM C) := by
  refine D.ok sc_law_bed (fun vs H Q E h => ?_) (fun _ _ _ _ _ _ us hl => match us, hl with | [_], _ => rfl) (fun f cdv A outer s H vs Q E hr h => ?_)
  · obtain ⟨r, rows, rfl, _⟩ := h
    rfl
  · obtain ⟨r, rows, rfl, ⟨ts, hR, hT⟩, R4, h2, k⟩ := h
    have R := R4.up
    refine ⟨_, (pss_cons (ps_if (pt_cmpR op_eq (pe_callB call_len_seq (by rfl) T.b_len boot_len (pa_cons (pv 0) pa_nil)) pe_int (nomark _))
        (pss_one (ps_ret (pe_bed c_Bed (hr.mono (by decide)) (pa_cons (pe_ix ix_list (pv 0) pe_int (fun _ _ => rfl)) (pa_cons (pe_ix ix_list (pv 0) pe_int (fun _ _ => rfl)) pa_nil)))))
        pss_nil)
      (pss_cons (ps_if (pt_cmpR op_eq (pe_callB call_len_seq (by rfl) T.b_len boot_len (pa_cons (pv 0) pa_nil)) pe_int (nomark _))
        (pss_one (ps_ret (pe_bed c_Bed (hr.mono (by decide)) (pa_cons (pe_ix ix_list (pv 0) pe_int (fun _ _ => rfl)) (pa_cons (pe_ix ix_list (pv 0) pe_int (fun _ _ => rfl)) (pa_cons (pe_ix ix_list (pv 0) pe_int (fun _ _ => rfl)) pa_nil))))))
        pss_nil)
      (pss_one (ps_ret (pe_bed c_Bed (hr.mono (by decide)) (pa_cons (pe_ix ix_list (pv 0) pe_int (fun _ _ => rfl)) (pa_cons (pe_ix ix_list (pv 0) pe_int (fun _ _ => rfl)) (pa_cons (pe_ix ix_list (pv 0) pe_int (fun _ _ => rfl)) (pa_cons (pe_ix ix_list (pv 0) pe_int (fun _ _ => rfl)) pa_nil))))))))), ?_⟩
    have h1 : 2 ≤ ts.length := by rw [hT.1]; exact h2
    have h8 : ts.length ≤ 4 := by rw [hT.1]; have := R4.len; omega
    match ts, And.intro h1 h8 with
    | [], h => exact absurd h.1 (by decide)
    | [t0], h => exact absurd h.1 (by show ¬ 2 ≤ 1; decide)
    | [t0, t1], _ =>
      refine ⟨_, rfl, r, _, rfl, .inl (SqL.of hR), rfl, _, rfl, ?_⟩
      refine ifp (by simp) ?_
      exact ⟨_, rfl, r, _, _, _, rfl, rfl, SqL.of hR, atI_nat (j := 0) rfl, _, rfl, r, _, _, _, rfl, rfl, SqL.of hR, atI_nat (j := 1) rfl, [t0, t1], rows, rfl, hT, R, k⟩
    | [t0, t1, t2], _ =>
      refine ⟨_, rfl, r, _, rfl, .inl (SqL.of hR), rfl, _, rfl, ?_⟩
      refine ifn (fun e => by simp at e) ?_
      refine ⟨_, rfl, r, _, rfl, .inl (SqL.of hR), rfl, _, rfl, ?_⟩
      refine ifp (by simp) ?_
      exact ⟨_, rfl, r, _, _, _, rfl, rfl, SqL.of hR, atI_nat (j := 0) rfl, _, rfl, r, _, _, _, rfl, rfl, SqL.of hR, atI_nat (j := 1) rfl, _, rfl, r, _, _, _, rfl, rfl, SqL.of hR, atI_nat (j := 2) rfl, [t0, t1, t2], rows, rfl, hT, R, k⟩
    | [t0, t1, t2, t3], _ =>
      refine ⟨_, rfl, r, _, rfl, .inl (SqL.of hR), rfl, _, rfl, ?_⟩
      refine ifn (fun e => by simp at e) ?_
      refine ⟨_, rfl, r, _, rfl, .inl (SqL.of hR), rfl, _, rfl, ?_⟩
      refine ifn (fun e => by simp at e) ?_
      exact ⟨_, rfl, r, _, _, _, rfl, rfl, SqL.of hR, atI_nat (j := 0) rfl, _, rfl, r, _, _, _, rfl, rfl, SqL.of hR, atI_nat (j := 1) rfl, _, rfl, r, _, _, _, rfl, rfl, SqL.of hR, atI_nat (j := 2) rfl, _, rfl, r, _, _, _, rfl, rfl, SqL.of hR, atI_nat (j := 3) rfl, [t0, t1, t2, t3], rows, rfl, hT, R, k⟩
    | _ :: _ :: _ :: _ :: _ :: _, h => exact absurd h.2 (by simp)
theorem ok_arity (T : Bl mg) (D : Def0 K mg "_law_arity" s_law_arity) : DefOk P w K mg base CX0 1 "_law_arity" spArity := by
  refine D.ok sc_law_arity (fun vs H Q E h => ?_) (fun _ _ _ _ _ _ us hl => match us, hl with | [_], _ => rfl) (fun f cdv A outer s H vs Q E hr h => ?_)
  · obtain ⟨r, rows, rfl, _⟩ := h
    rfl
  · obtain ⟨r, rows, rfl, ⟨ts, hR, hT⟩, R, k⟩ := h
    have hu := hu_of hr
    refine ⟨_, (pss_cons (ps_set (i := 1) sc_law_arity.nd rfl (Or.inl rfl) pe_dnewK)
      (pss_cons (ps_for PassesOwn.never rfl (pi_list (pv 0)) (pg_name (i := 2) sc_law_arity.nd rfl (Or.inl rfl))
        (pss_one (ps_dput hu (pv 1) (pe_ix ix_tup (pv 2) pe_int (fun _ _ => rfl)) (pe_ix ix_tup (pv 2) pe_int (fun _ _ => rfl)) rfl)))
      (pss_one (ps_ret (pv 1))))), ?_⟩
    refine fun D hD => ?_
    have s1 : Same H (upd H D (.dK [])) := (Same.refl H).upd_new hD
    refine ⟨_, rfl, r, rfl, ⟨_, SqL.of (s1 _ _ hR)⟩, for_it (walk_list (xs := ts.map V.ref)) (fun i σ H' => ∃ x : Option V, σ = [some (.ref r), some (.ref D), x] ∧ Same H H' ∧ H' D = some (.dK (wL (rows.take i))))
      ⟨none, rfl, s1, upd_same⟩ (fun i σ H' _ ⟨_, _, q, _⟩ => SqL.of (q _ _ hR)) ?_ ?_⟩
    · rintro i v σ H2 H3 hi ⟨x, rfl, s2, d2⟩ ⟨rfl, hv⟩
      rw [List.length_map, hT.1] at hi
      obtain ⟨t, ht, rfl⟩ := get_map hv
      have hq := (hT.2 i t rows[i] ht (List.getElem?_eq_getElem hi))
      have hq2 := s2 _ _ hq
      have fresh : valV (wL (rows.take i)) (.inr (rows[i]).1) = none := valV_none fun kv hk => by
        obtain ⟨q, hq, rfl⟩ := List.mem_map.mp hk
        intro e
        have e : q.1 = (rows[i]).1 := by injection e
        have hnd := nd_take R.nd (i := i) (by rw [List.length_map]; exact hi)
        apply hnd
        rw [← List.map_take, List.getElem_map, ← e]
        exact List.mem_map_of_mem hq
      refine ⟨_, rfl, t, _, _, _, rfl, rfl, SqT.of hq2, atI_nat (j := 1) rfl, _, rfl, _, rfl, t, _, _, _, rfl, rfl, SqT.of hq2, atI_nat (j := 0) rfl, D, _, rfl, DPut.k (k := .inr (rows[i]).1) d2 ?_, ?_⟩
      · unfold wL
        rw [List.length_map, List.length_take]
        exact lt_line (by have := R.len; omega)
      · refine ⟨_, rfl, s2.upd_own hD, ?_⟩
        rw [upd_same, putK_new _ fresh, ← take_snoc (List.getElem?_eq_getElem hi)]
        unfold wL
        rw [List.map_append]
        rfl
    · rintro σ H2 ⟨x, rfl, s2, d2⟩
      rw [List.length_map, hT.1, List.take_length] at d2
      exact ⟨_, rfl, k _ _ s2 hD d2⟩
theorem ok_kindsM (T : Bl mg) (c_law_pick : DefOk P w K mg base CX0 1 "_law_pick" spPick) (c_law_words : DefOk P w K mg base CX0 3 "_law_words" spWordsM) (D : Def0 K mg "_law_kinds" s_law_kinds) : DefOk P w K mg base CX0 4 "_law_kinds" spKindsM := by
  refine D.ok sc_law_kinds (fun vs H Q E h => ?_) (fun _ _ _ _ _ _ us hl => match us, hl with | [_], _ => rfl) (fun f cdv A outer s H vs Q E hr h => ?_)
  · obtain ⟨a, c, rfl, _⟩ := h
    rfl
  · obtain ⟨a, c, rfl, hb, k⟩ := h
    refine ⟨_, (pss_cons (ps_set (i := 1) sc_law_kinds.nd rfl (Or.inr rfl) (pe_lst pa_nil))
      (pss_cons (ps_for PassesOwn.never rfl (pi_range1 (by rfl) T.b_range (pa_cons (pe_ix ix_tup (pe_tup (pa_cons pe_int (pa_cons pe_int (pa_cons pe_int (pa_cons pe_int pa_nil))))) (pe_d c_law_pick (hr.mono (by decide)) pass0 (pa_cons (pv 0) (pa_cons pe_int pa_nil))) (fun _ _ => rfl)) pa_nil)) (pg_name (i := 2) sc_law_kinds.nd rfl (Or.inl rfl))
        (pss_cons (ps_set (i := 3) sc_law_kinds.nd rfl (Or.inl rfl) (pe_ix ix_tup (pe_tup (pa_cons pe_int (pa_cons pe_int (pa_cons pe_int (pa_cons pe_int (pa_cons pe_int (pa_cons pe_int (pa_cons pe_int pa_nil)))))))) (pe_d c_law_pick (hr.mono (by decide)) pass0 (pa_cons (pv 0) (pa_cons pe_int pa_nil))) (fun _ _ => rfl)))
        (pss_cut (ps_if (PW.pt (pw_and (pt_cmpR op_eq (pv 3) pe_int (nomark _)) (pw_and1 (pt_cmpR op_in_seq pe_int (pv 1) (by rfl)))))
          (pss_one (ps_set (i := 3) sc_law_kinds.nd rfl (Or.inl rfl) pe_int))
          pss_nil)
        (pss_one (ps_expr (pe_bm PySem.F.plainAttrs_list PySem.F.slot_list_append PySem.F.type_list_append mt_append (pv 1) (pa_cons (pv 3) pa_nil)))))))
      (pss_cut (ps_if (pt_cmpR op_notIn_seq pe_int (pv 1) (by rfl))
        (pss_one (ps_asg pe_int (pg_sub (pv 1) (pe_d c_law_pick (hr.mono (by decide)) pass0 (pa_cons (pv 0) (pa_cons (pe_callB call_len_seq (by rfl) T.b_len boot_len (pa_cons (pv 1) pa_nil)) pa_nil))) set_list)))
        pss_nil)
      (pss_cons (ps_set (i := 4) sc_law_kinds.nd rfl (Or.inr rfl) (pe_d c_law_words (hr.mono (by decide)) pass0 (pa_cons (pv 0) (pa_cons (pe_callB call_len_seq (by rfl) T.b_len boot_len (pa_cons (pv 1) pa_nil)) pa_nil))))
      (pss_one (ps_ret (pe_lc (own := [("k", 2)]) (g := (gName 2)) (tt := tYes) rfl sc_law_kinds.nd (pi_range1 (by rfl) T.b_range (pa_cons (pe_callB call_len_seq (by rfl) T.b_len boot_len (pa_cons (pv 1) pa_nil)) pa_nil)) (blkOk_by (N := N_law_kinds) (sc := defScope s_law_kinds) (by decide +kernel)) (fun _ _ _ _ _ => (pg_name (i := 2) sc_law_kinds.nd rfl (Or.inl rfl))) (fun _ _ _ _ _ => pts_nil) (fun _ _ _ _ _ => (pe_tup (pa_cons (pe_ix (show IxR _ (rIxL K) from ix_list) (pv 4) (pv 2) (fun _ _ => rfl)) (pa_cons (pe_ix (show IxR _ (rIxL K) from ix_list) (pv 1) (pv 2) (fun _ _ => rfl)) pa_nil))))))))))), ?_⟩
    refine ⟨Nat.zero_le _, fun l2 h2 => ?_⟩
    have n2 := hb.ne h2
    have b0 := hb.new (o := .lst []) h2
    have k0 : Kp a H (upd H l2 (.lst [])) := (Kp.refl a H).upd_own h2
    have d0 : (upd H l2 (.lst [])) l2 = some (.lst (([] : List Int).map V.int)) := upd_same
    generalize upd H l2 (.lst []) = H0 at b0 k0 d0
    refine ⟨le_line (show 4 ≤ 100000 by decide), fun t ht => ?_⟩
    have s1 : Same H0 (upd H0 t (.tup [V.int 2, V.int 4, V.int 3, V.int 3])) := (Same.refl H0).upd_new ht
    have t1 : (upd H0 t (.tup [V.int 2, V.int 4, V.int 3, V.int 3])) t = some (.tup [V.int 2, V.int 4, V.int 3, V.int 3]) := upd_same
    have b1 := b0.same s1
    refine ⟨_, rfl, a, c, 4, rfl, b1, by decide, by decide, fun H1 e k1 b2 e0 e1 => ?_⟩
    obtain ⟨y, hy, y2, y4⟩ := two_of e e0 e1
    have nt := b0.ne ht
    refine ⟨t, _, _, _, rfl, rfl, SqT.of (k1 _ _ t1 nt.1), at_ofG (j := e.toNat) (by omega) hy, ?_⟩
    have k01 : Kp a H H1 := (k0.trans (Kp.same s1)).trans k1
    have d1 := k1 _ _ (s1 _ _ d0) n2.1
    refine ⟨_, rfl, by omega, by omega, for_range (n := y.toNat) (fun i σ H' => ∃ (x z : Option V) (ws : List Int), σ = [some (.ref a), some (.ref l2), x, z, none] ∧ Kp a H H' ∧ BagM H' a c ∧ H' l2 = some (.lst (ws.map V.int)) ∧ ws.length = i ∧ ∀ z ∈ ws, 0 ≤ z ∧ z ≤ 3)
      ⟨none, none, [], rfl, k01, b2, d1, rfl, fun z hz => nomatch hz⟩ ?_ ?_⟩
    · rintro i σ H2 hi ⟨x, z, ws, rfl, k2, b3, d2, hl, hw⟩
      refine ⟨le_line (show 7 ≤ 100000 by decide), fun t ht => ?_⟩
      have s1 : Same H2 (upd H2 t (.tup [V.int 0, V.int 2, V.int 1, V.int 2, V.int 1, V.int 0, V.int 3])) := (Same.refl H2).upd_new ht
      have t1 : (upd H2 t (.tup [V.int 0, V.int 2, V.int 1, V.int 2, V.int 1, V.int 0, V.int 3])) t = some (.tup [V.int 0, V.int 2, V.int 1, V.int 2, V.int 1, V.int 0, V.int 3]) := upd_same
      have nt := b3.ne ht
      refine ⟨_, rfl, a, c, 7, rfl, b3.same s1, by decide, by decide, fun H3 e k3 b4 e0 e1 => ?_⟩
      obtain ⟨y, hy, y0, y3⟩ := wid_of e e0 e1
      refine ⟨t, _, _, _, rfl, rfl, SqT.of (k3 _ _ t1 nt.1), at_ofG (j := e.toNat) (by omega) hy, ?_⟩
      have d3 := k3 _ _ (s1 _ _ d2) n2.1
      have k03 := (k2.trans (Kp.same s1)).trans k3
      refine ⟨fun σ H' => H' = H3 ∧ ∃ y : Int, σ = [some (.ref a), some (.ref l2), some (.int (0 + (i : Nat))), some (.int y), none] ∧ 0 ≤ y ∧ y ≤ 3, ?_, ?_⟩
      · refine ⟨_, rfl, rfl, _, rfl, ite2 (fun _ => ?_) (fun _ => ⟨rfl, _, rfl, y0, y3⟩)⟩
        refine ⟨_, rfl, l2, _, rfl, .inl (SqL.of d3), rfl, flat_ints ws, _, rfl, ?_⟩
        exact ite2 (fun _ => ⟨rfl, _, rfl, by decide, by decide⟩) (fun _ => ⟨rfl, _, rfl, y0, y3⟩)
      · rintro σ H4 ⟨rfl, y, rfl, y0, y3⟩
        refine ⟨_, rfl, .inl ⟨rfl, _, SqL.of d3⟩, _, rfl, l2, _, _, rfl, rfl, d3, lt_line (by rw [List.length_map]; omega), ?_⟩
        refine ⟨_, _, ws ++ [y], rfl, k03.upd_own h2, b4.upd_ne n2, by rw [upd_same, List.map_append]; rfl, by rw [List.length_append, hl]; rfl, fun n hn => ?_⟩
        rcases List.mem_append.mp hn with q | q
        · exact hw n q
        · rw [List.mem_singleton.mp q]; exact ⟨y0, y3⟩
    · rintro σ H2 ⟨x, z, ws, rfl, k2, b3, d2, hl, hw⟩
      have hl2 : 2 ≤ ws.length ∧ ws.length ≤ 4 := by omega
      refine ⟨fun σ H' => ∃ ws : List Int, σ = [some (.ref a), some (.ref l2), x, z, none] ∧ Kp a H H' ∧ BagM H' a c ∧ H' l2 = some (.lst (ws.map V.int)) ∧ (2 ≤ ws.length ∧ ws.length ≤ 4) ∧ (∀ z ∈ ws, 0 ≤ z ∧ z ≤ 3) ∧ 0 ∈ ws, ?_, ?_⟩
      · refine ⟨_, rfl, l2, _, rfl, .inl (SqL.of d2), rfl, flat_ints ws, _, rfl, ?_⟩
        show if (!inV (V.int 0) (ws.map V.int)) = true then _ else _
        rw [mem_map_ints]
        refine ite2 (fun h0 => ?_) (fun h0 => ⟨ws, rfl, k2, b3, d2, hl2, hw, by simpa using h0⟩)
        refine ⟨_, rfl, _, rfl, _, rfl, l2, _, rfl, .inl (SqL.of d2), a, c, (ws.length : Int), by rw [List.length_map], b3, by omega, by omega, fun H3 j k3 b4 j0 j1 => ?_⟩
        have d3 := k3 _ _ d2 n2.1
        refine ⟨l2, _, _, j.toNat, rfl, rfl, d3, ?_, ?_⟩
        · have z := ixN_nat (n := (ws.map V.int).length) (j := j.toNat) (by rw [List.length_map]; omega)
          rw [show ((j.toNat : Nat) : Int) = j by omega] at z
          exact z
        · refine ⟨ws.set j.toNat 0, rfl, (k2.trans k3).upd_own h2, b4.upd_ne n2, by rw [upd_same, List.map_set], by rw [List.length_set]; exact hl2, fun z hz => ?_, List.mem_set (by omega) _⟩
          rcases List.mem_or_eq_of_mem_set hz with q | q
          · exact hw z q
          · rw [q]; exact ⟨by decide, by decide⟩
      · rintro σ H3 ⟨ws, rfl, k3, b4, d3, hl3, hw3, h0⟩
        refine ⟨_, rfl, _, rfl, l2, _, rfl, .inl (SqL.of d3), a, c, ws.length, by rw [List.length_map], b4, hl3.2, fun H4 l1 ns k4 b5 f1 na nc q1 hln nd hn => ?_⟩
        have q2 := k4 _ _ d3 n2.1
        have k04 := k3.trans k4
        have h1 : H l1 = none := k3.freeM f1 na
        have n12 : l1 ≠ l2 := fun e => by rw [e, d3] at f1; cases f1
        refine ⟨_, rfl, l2, _, rfl, .inl (SqL.of q2), _, rfl, by rw [List.length_map]; omega, by rw [List.length_map]; omega, fun D hD => lc_range (n := (((ws.map V.int).length : Nat) : Int).toNat)
          (fun i H' => Kp a H H' ∧ BagM H' a c ∧ H' l1 = some (.lst (ns.map V.str)) ∧ H' l2 = some (.lst (ws.map V.int)) ∧ ∃ ts : List Addr, H' D = some (.lst (ts.map V.ref)) ∧ TupsAt H' ts ((ns.zip ws).take i)) ?_ ?_ ?_⟩
        · exact ⟨k04.upd_new hD, b5.new hD, by rw [upd_ne (ne_of_none q1 hD)]; exact q1, by rw [upd_ne (ne_of_none q2 hD)]; exact q2, [], upd_same, rfl, fun i t q hi => by simp at hi⟩
        · rintro i H4 hi ⟨k4, b4, p1, p2, ts, pD, pT⟩
          have hiw : i < ws.length := by simpa using hi
          have hin : i < ns.length := by omega
          have nD := b5.ne hD
          refine ⟨rfl, _, rfl, _, rfl, l1, _, _, _, rfl, rfl, SqL.of p1, at_ofG (j := i) (by omega) (by rw [List.getElem?_map, List.getElem?_eq_getElem hin]; rfl), _, rfl, _, rfl, l2, _, _, _, rfl, rfl, SqL.of p2, at_ofG (j := i) (by omega) (by rw [List.getElem?_map, List.getElem?_eq_getElem hiw]; rfl), ?_⟩
          refine ⟨le_line (show 2 ≤ 100000 by decide), fun t ht => ?_⟩
          have nDt : D ≠ t := ne_of_none pD ht
          have hD3 : H D = none := k04.freeM hD nD.1
          refine ⟨_, by rw [upd_ne nDt]; exact pD, ?_, (k4.upd_new ht).upd_own hD3, (b4.new ht).upd_ne nD, ?_, ?_, ts ++ [t], ?_, ?_⟩
          · rw [List.length_map, pT.1]
            exact lt_line (by rw [List.length_take, List.length_zip]; omega)
          · rw [upd_ne (ne_of_none q1 hD), upd_ne (ne_of_none p1 ht)]; exact p1
          · rw [upd_ne (ne_of_none q2 hD), upd_ne (ne_of_none p2 ht)]; exact p2
          · rw [upd_same, List.map_append]; rfl
          · have e := zip_snoc (ns := ns) (ws := ws) (i := i) (n := ns[i]) (z := ws[i]) (List.getElem?_eq_getElem hin) (List.getElem?_eq_getElem hiw)
            rw [← e]
            have tk : TK H4 (upd (upd H4 t (.tup [.str ns[i], .int ws[i]])) D (.lst (ts.map V.ref ++ [V.ref t]))) :=
              (TK.new ht).trans (TK.lst (ys := ts.map V.ref) (by rw [upd_ne nDt]; exact pD))
            exact (pT.keep tk).snoc (by rw [upd_ne nDt.symm, upd_same])
        · rintro H4 ⟨k4, b4, p1, p2, ts, pD, pT⟩
          have nD := b5.ne hD
          have elen : (((ws.map V.int).length : Nat) : Int).toNat = (ns.zip ws).length := by
            rw [List.length_zip, List.length_map]; omega
          rw [elen, List.take_length] at pT
          refine k _ _ (ns.zip ws) k4 b4 (k04.freeM hD nD.1) nD.1 nD.2 ⟨ts, pD, pT⟩ ⟨?_, ?_, ?_, ?_, ?_, ?_⟩ ?_
          · rw [List.length_zip]; omega
          · rw [List.length_zip]; omega
          · rw [show (ns.zip ws).map (·.1) = ns from by rw [← List.unzip_fst, List.unzip_zip (by omega)]]
            exact nd
          · intro q hq
            exact hn _ (List.of_mem_zip (a := q.1) (b := q.2) hq).1
          · intro q hq
            exact hw3 _ (List.of_mem_zip (a := q.1) (b := q.2) hq).2
          · obtain ⟨j, hj, e⟩ := List.mem_iff_getElem.mp h0
            refine ⟨(ns[j]'(by omega), 0), ?_, rfl⟩
            refine List.mem_iff_getElem?.mpr ⟨j, List.getElem?_zip_eq_some.mpr ⟨List.getElem?_eq_getElem _, ?_⟩⟩
            rw [List.getElem?_eq_getElem hj, e]
          · rw [List.length_zip]; omega
end
end Sh
end
section
set_option Elab.async false
set_option linter.all false
set_option maxRecDepth 100000
set_option maxHeartbeats 2000000
namespace Sh
open PySem PySem.Spec PyProof.Rows L2
open C8 (pss_cut tCut)
open Evl (ixN_nat)
/-- what is begun: with so many forests behind it, it is a plant or a stump -/
def Opn {α : Type} (w : α → Nat) (l : List α) (n : Nat) : Prop := ∀ m, Mth.forest w m n = true → Mth.forest w (l ++ m) 1 = true
theorem Opn.nil {α : Type} {w : α → Nat} : Opn w [] 1 := fun _ h => h
theorem Opn.snoc {α : Type} {w : α → Nat} {l : List α} {n : Nat} (h : Opn w l (n + 1)) (z : α) : Opn w (l ++ [z]) (n + w z) := fun m hm => by
  rw [List.append_assoc]
  refine h _ ?_
  show Mth.forest w (z :: m) (n + 1) = true
  rw [Mth.forest]
  rw [Nat.add_comm] at hm
  first
  | exact hm
  | (rw [Nat.add_comm]; exact hm)
theorem Opn.done {α : Type} {w : α → Nat} {l : List α} (h : Opn w l 0) : Mth.forest w l 1 = true := by
  have q := h [] rfl
  rw [List.append_nil] at q
  exact q
theorem TupsAt.len {H : Hp} {ts : List Addr} {rows : List Row} (x : TupsAt H ts rows) : ts.length = rows.length := x.1
theorem wR_row {rows : List Row} {m : Int} (R : ROk m rows) {q : Row} (h : q ∈ rows) : ((wR rows q.1 : Nat) : Int) = q.2 := by
  obtain ⟨i, hi, rfl⟩ := List.mem_iff_getElem.mp h
  exact row_at R hi
theorem star_no {rows : List Row} {m : Int} (R : ROk m rows) : wR rows "*" = 0 := by
  rcases nm_case R "*" with ⟨_, h, _⟩ | ⟨h, _⟩
  · exact h
  · rw [nm_star R] at h
    omega
theorem flt_snoc {α : Type} {p : α → Bool} {l : List α} {i : Nat} {x : α} (h : l[i]? = some x) : (l.take (i + 1)).filter p = (l.take i).filter p ++ (if p x = true then [x] else []) := by
  rw [← take_snoc h, List.filter_append, List.filter_cons, List.filter_nil]
def rootP (most : Nat) (q : Row) : Bool := decide (0 < q.2 ∧ q.2 < ((most : Nat) : Int))
def roomP (k n most : Nat) (q : Row) : Bool := decide (((k : Nat) : Int) + ((n : Nat) : Int) + q.2 ≤ ((most : Nat) : Int))
def spStumpM : Sp := fun vs H Q _ => ∃ (a c r : Addr) (most : Nat) (rows : List Row), vs = [.ref a, .ref r, .int (most : Nat)] ∧ BagM H a c ∧ r ≠ a ∧ RowsAt H r rows ∧ ROk 4 rows ∧ most ≤ 7 ∧ (∃ q ∈ rows, 0 < q.2 ∧ q.2 < (most : Nat)) ∧
  ∀ (H' : Hp) (t : Addr) (l : List Str), Kp a H H' → BagM H' a c → Tz H' t (sV l) → StumpOk rows l → l.length ≤ most → 2 ≤ l.length → Q (.ref t) H'
abbrev s_law_stump : Stmt := top 49
abbrev N_law_stump : List Str := ["bag", "kinds", "most", "roots", "pair", "row", "need", "k", "choice", "at", "one"]
theorem sc_law_stump : FnScope N_law_stump ["bag", "kinds", "most"] (defScope s_law_stump) := ⟨rfl, rfl, rfl, by decide +kernel, rfl, by decide +kernel, by decide +kernel⟩
section
variable {P : Program} {w : World} {K : PySem.W.Frag} {mg : Str → Option Value} {base : Heap} {C : Addr}
theorem ok_stumpM (T : Bl mg) (c_law_pick : DefOk P w K mg base CX0 1 "_law_pick" spPick) (D : Def0 K mg "_law_stump" s_law_stump) : DefOk P w K mg base CX0 2 "_law_stump" spStumpM := by
  refine D.ok sc_law_stump (fun vs H Q E h => ?_) (fun _ _ _ _ _ _ us hl => match us, hl with | [_, _, _], _ => rfl) (fun f cdv A outer s H vs Q E hr h => ?_)
  · obtain ⟨a, c, r, most, rows, rfl, _⟩ := h
    rfl
  · obtain ⟨a, c, r, most, rows, rfl, hb, nra, ⟨ts, hR, hT⟩, R, hm7, hroot, k⟩ := h
    have R8 := R.up
    refine ⟨_, (pss_cons (ps_setLc (i := 3) (own := [("pair", 4)]) (g := (gName 4)) rfl sc_law_stump.nd rfl rfl (sw_true rfl rfl rfl (by decide +kernel)) (pi_list (pv 1)) (blkOk_by (N := N_law_stump) (sc := defScope s_law_stump) (by decide +kernel)) (fun _ _ _ _ _ => (pg_name (i := 4) sc_law_stump.nd rfl (Or.inl rfl))) (fun _ _ _ _ _ => (pts_one (pt_chain op_lt op_lt pe_int (pe_ix (show IxR _ (rIxT K) from ix_tup) (pv 4) pe_int (fun _ _ => rfl)) (pv 2)))) (fun _ _ _ _ _ => (pv 4)))
      (pss_cons (ps_set (i := 4) sc_law_stump.nd rfl (Or.inl rfl) (pe_ix ix_list (pv 3) (pe_d c_law_pick (hr.mono (by decide)) pass0 (pa_cons (pv 0) (pa_cons (pe_callB call_len_seq (by rfl) T.b_len boot_len (pa_cons (pv 3) pa_nil)) pa_nil))) (fun _ _ => rfl)))
      (pss_cons (ps_set (i := 5) sc_law_stump.nd rfl (Or.inr rfl) (pe_tupF (pa_cons (pe_ix ix_tup (pv 4) pe_int (fun _ _ => rfl)) pa_nil)))
      (pss_cons (ps_set (i := 6) sc_law_stump.nd rfl (Or.inr rfl) (pe_ix ix_tup (pv 4) pe_int (fun _ _ => rfl)))
      (pss_cons (ps_for PassesOwn.never rfl (pi_range1 (by rfl) T.b_range (pa_cons (pv 2) pa_nil)) (pg_name (i := 7) sc_law_stump.nd rfl (Or.inl rfl))
        (pss_cons (ps_if (pt_cmpR op_eq (pv 6) pe_int (nomark _))
          (pss_one ps_break)
          pss_nil)
        (pss_cons (ps_setLc (i := 8) (own := [("one", 10)]) (g := (gName 10)) rfl sc_law_stump.nd rfl rfl (sw_true rfl rfl rfl (by decide +kernel)) (pi_list (pv 1)) (blkOk_by (N := N_law_stump) (sc := defScope s_law_stump) (by decide +kernel)) (fun _ _ _ _ _ => (pg_name (i := 10) sc_law_stump.nd rfl (Or.inl rfl))) (fun _ _ _ _ _ => (pts_one (pt_cmpR op_le (pe_op op_add (pe_op op_add (pe_callB (show CallR _ _ (Evl.rLenS K) from call_len_seq) (by rfl) T.b_len boot_len (pa_cons (pv 5) pa_nil)) (pv 6)) (pe_ix (show IxR _ (rIxT K) from ix_tup) (pv 10) pe_int (fun _ _ => rfl))) (pv 2) (nomark _)))) (fun _ _ _ _ _ => (pv 10)))
        (pss_cons (ps_set (i := 9) sc_law_stump.nd rfl (Or.inl rfl) (pe_d c_law_pick (hr.mono (by decide)) pass0 (pa_cons (pv 0) (pa_cons (pe_op op_mul pe_int (pe_callB call_len_seq (by rfl) T.b_len boot_len (pa_cons (pv 8) pa_nil))) pa_nil))))
        (pss_one (ps_if (pt_cmpR op_lt (pv 9) (pe_callB call_len_seq (by rfl) T.b_len boot_len (pa_cons (pv 8) pa_nil)) (nomark _))
          (pss_cons (ps_set (i := 5) sc_law_stump.nd rfl (Or.inr rfl) (pe_op op_catG (pv 5) (pe_tupF (pa_cons (pe_ix ix_tup (pe_ix ix_list (pv 8) (pv 9) (fun _ _ => rfl)) pe_int (fun _ _ => rfl)) pa_nil))))
          (pss_one (ps_set (i := 6) sc_law_stump.nd rfl (Or.inr rfl) (pe_op op_add (pe_op op_sub (pv 6) pe_int) (pe_ix ix_tup (pe_ix ix_list (pv 8) (pv 9) (fun _ _ => rfl)) pe_int (fun _ _ => rfl))))))
          (pss_cons (ps_set (i := 5) sc_law_stump.nd rfl (Or.inr rfl) (pe_op op_catG (pv 5) (pe_tupF (pa_cons pe_str pa_nil))))
          (pss_one (ps_set (i := 6) sc_law_stump.nd rfl (Or.inr rfl) (pe_op op_sub (pv 6) pe_int))))))))))
      (pss_one (ps_ret (pv 5)))))))), ?_⟩
    refine ⟨_, rfl, r, rfl, ⟨_, SqL.of hR⟩, fun D hD => ?_⟩
    have nD := hb.ne hD
    have nDr : r ≠ D := ne_of_none hR hD
    refine lc_list (xs := ts.map V.ref) (fun i H' => Same H H' ∧ ∃ us, H' D = some (.lst (us.map V.ref)) ∧ TupsAt H' us ((rows.take i).filter (rootP most)))
      ⟨(Same.refl H).upd_new hD, [], upd_same, rfl, fun i t q hi => by simp at hi⟩ (fun i H' _ ⟨q, _⟩ => SqL.of (q _ _ hR)) ?_ ?_
    · rintro i v H1 hv ⟨s1, us, d1, u1⟩
      obtain ⟨t, ht, rfl⟩ := get_map hv
      have hi : i < rows.length := by rw [← hT.1]; exact lt_of_get ht
      have hq := s1 _ _ (hT.2 i t rows[i] ht (List.getElem?_eq_getElem hi))
      have et := flt_snoc (p := rootP most) (List.getElem?_eq_getElem hi)
      have lu : us.length ≤ 8 := by
        rw [u1.1]
        have := List.length_filter_le (rootP most) (rows.take i)
        have := R8.len
        rw [List.length_take] at *
        omega
      have no : ¬ (0 < (rows[i]).2 ∧ (rows[i]).2 < ((most : Nat) : Int)) → Same H H1 ∧ ∃ us, H1 D = some (.lst (us.map V.ref)) ∧ TupsAt H1 us ((rows.take (i + 1)).filter (rootP most)) := fun h => by
        refine ⟨s1, us, d1, ?_⟩
        rw [et, if_neg (show ¬ rootP most rows[i] = true from fun e => h (of_decide_eq_true e)), List.append_nil]
        exact u1
      refine ⟨rfl, _, rfl, t, _, _, _, rfl, rfl, SqT.of hq, atI_nat (j := 1) rfl, _, _, rfl, rfl, _, rfl, ?_⟩
      refine ite2 (fun h0 => ?_) (fun h0 => ⟨_, rfl, no fun q => h0 (decide_eq_true q.1)⟩)
      refine ⟨_, rfl, _, _, rfl, rfl, _, rfl, ?_⟩
      refine ite2 (fun h1 => ?_) (fun h1 => no fun q => h1 (decide_eq_true q.2))
      refine ⟨_, rfl, _, d1, lt_line (by rw [List.length_map]; omega), s1.upd_own hD, us ++ [t], by rw [upd_same, List.map_append]; rfl, ?_⟩
      rw [et, if_pos (show rootP most rows[i] = true from decide_eq_true ⟨of_decide_eq_true h0, of_decide_eq_true h1⟩)]
      have tk : TK H1 (upd H1 D (.lst (us.map V.ref ++ [V.ref t]))) := TK.lst d1
      exact (u1.keep tk).snoc (tk _ _ hq)
    · rintro H1 ⟨s1, us, d1, u1⟩
      have elen : (ts.map V.ref).length = rows.length := by rw [List.length_map]; exact hT.1
      rw [elen, List.take_length] at u1
      have hpos : 0 < (rows.filter (rootP most)).length := by
        obtain ⟨q, q1, q2⟩ := hroot
        exact List.length_pos_of_mem (List.mem_filter.mpr ⟨q1, decide_eq_true q2⟩)
      have hsub : (rows.filter (rootP most)).length ≤ rows.length := List.length_filter_le _ _
      have hin : ∀ q ∈ (rows.filter (rootP most)), q ∈ rows ∧ 0 < q.2 ∧ q.2 < ((most : Nat) : Int) := fun q hq => ⟨(List.mem_filter.mp hq).1, of_decide_eq_true (List.mem_filter.mp hq).2⟩
      generalize (rows.filter (rootP most)) = rts at u1 hpos hsub hin
      have lu := u1.1
      have R8l := R8.len
      refine ⟨_, rfl, _, rfl, _, rfl, D, _, rfl, .inl (SqL.of d1), a, c, (us.length : Int), by rw [List.length_map], hb.same s1, by omega, by omega, fun H2 j k2 b2 j0 j1 => ?_⟩
      have hj : j.toNat < rts.length := by omega
      obtain ⟨t, t1, t2, t3⟩ := u1.at hj
      have d2 := k2 _ _ d1 nD.1
      have t4 := k2.tkM (hb.same s1) _ _ t3
      refine ⟨D, _, _, _, rfl, rfl, SqL.of d2, at_ofG (j := j.toNat) (by omega) t2, ?_⟩
      obtain ⟨m1, m2, m3⟩ := hin _ (List.getElem_mem hj)
      generalize rts[j.toNat] = q0 at t3 t4 m1 m2 m3
      have k02 : Kp a H H2 := (Kp.same s1).trans k2
      have hR2 := k02 _ _ hR nra
      have hT2 : TupsAt H2 ts rows := hT.keep (k02.tkM hb)
      refine ⟨_, rfl, t, _, _, _, rfl, rfl, SqT.of t4, atI_nat (j := 0) rfl, le_line (show 1 ≤ 100000 by decide), fun t5 o5 h5 ho5 => ?_⟩
      have s5 : Same H2 (upd H2 t5 (.frz o5 (.tup [.str q0.1]))) := (Same.refl H2).upd_new h5
      have z5 : Tz (upd H2 t5 (.frz o5 (.tup [.str q0.1]))) t5 (sV [q0.1]) := ⟨o5, upd_same, ho5⟩
      have b5 := b2.same s5
      have k05 : Kp a H (upd H2 t5 (.frz o5 (.tup [.str q0.1]))) := k02.trans (Kp.same s5)
      have t45 := s5 _ _ t4
      generalize upd H2 t5 (.frz o5 (.tup [.str q0.1])) = H5 at s5 z5 b5 k05 t45
      have wq := wR_row R m1
      refine ⟨_, rfl, t, _, _, _, rfl, rfl, SqT.of t45, atI_nat (j := 1) rfl, ?_⟩
      have fin : ∀ (H' : Hp) (tt : Addr) (l : List Str), Kp a H H' → BagM H' a c → Tz H' tt (sV l) → Opn (wR rows) l 0 → (∀ z ∈ l, z = "*" ∨ ∃ q ∈ rows, q.1 = z) → l.length ≤ most → 2 ≤ l.length → Q (.ref tt) H' :=
        fun H' tt l k' b' z' o' e' l' g' => k _ _ l k' b' z' ⟨o'.done, e', by omega⟩ l' g'
      refine ⟨_, rfl, _, rfl, by omega, by omega, for_range (n := most) (fun i σ H' => ∃ (x y z : Option V) (tt : Addr) (l : List Str) (n : Nat), σ = [some (.ref a), some (.ref r), some (.int (most : Nat)), some (.ref D), some (.ref t), some (.ref tt), some (.int (n : Nat)), x, y, z, none] ∧
          Kp a H H' ∧ BagM H' a c ∧ Tz H' tt (sV l) ∧ Opn (wR rows) l n ∧ (∀ z ∈ l, z = "*" ∨ ∃ q ∈ rows, q.1 = z) ∧ l.length + n ≤ most ∧ 2 ≤ l.length + n ∧ (n = 0 ∨ l.length = i + 1))
        ⟨none, none, none, t5, [q0.1], wR rows q0.1, by rw [wq]; rfl, k05, b5, z5, ?_, ?_, ?_, ?_, .inr rfl⟩ ?_ ?_⟩
      · have q := (Opn.nil (w := wR rows)).snoc q0.1
        rw [Nat.zero_add] at q
        exact q
      · intro z hz
        rw [List.mem_singleton.mp hz]
        exact .inr ⟨q0, m1, rfl⟩
      · show 1 + _ ≤ _
        omega
      · show 2 ≤ 1 + _
        omega
      · rintro i σ H6 hi ⟨x, y, z, tt, l, n, rfl, k6, b6, z6, O, em, l1, l2, pr⟩
        have hR6 := k6 _ _ hR nra
        have hT6 : TupsAt H6 ts rows := hT.keep (k6.tkM hb)
        refine ⟨_, rfl, rfl, _, rfl, ite2 (fun h0 => ?_) (fun h0 => ?_)⟩
        · have n0 : n = 0 := by
            have := int_eq0 h0
            omega
          subst n0
          exact ⟨_, rfl, fin _ _ l k6 b6 z6 O em (by omega) (by omega)⟩
        have hn0 : n ≠ 0 := fun e => h0 (by rw [e]; exact decide_eq_true rfl)
        obtain ⟨n, rfl⟩ := Nat.exists_eq_succ_of_ne_zero hn0
        have hli : l.length = i + 1 := by omega
        refine ⟨_, rfl, r, rfl, ⟨_, SqL.of hR6⟩, fun D2 hD2 => ?_⟩
        have nD2 := b6.ne hD2
        have nDr2 : r ≠ D2 := ne_of_none hR6 hD2
        refine lc_list (xs := ts.map V.ref) (fun i H' => Same H6 H' ∧ ∃ us, H' D2 = some (.lst (us.map V.ref)) ∧ TupsAt H' us ((rows.take i).filter (roomP l.length (n + 1) most)))
          ⟨(Same.refl H6).upd_new hD2, [], upd_same, rfl, fun i t q hi => by simp at hi⟩ (fun i H' _ ⟨q, _⟩ => SqL.of (q _ _ hR6)) ?_ ?_
        · rintro j v H7 hv ⟨s7, us, d7, u7⟩
          obtain ⟨t7, ht7, rfl⟩ := get_map hv
          have hj : j < rows.length := by rw [← hT6.1]; exact lt_of_get ht7
          have hq := s7 _ _ (hT6.2 j t7 rows[j] ht7 (List.getElem?_eq_getElem hj))
          have et := flt_snoc (p := roomP l.length (n + 1) most) (List.getElem?_eq_getElem hj)
          have lu : us.length ≤ 8 := by
            rw [u7.1]
            have := List.length_filter_le (roomP l.length (n + 1) most) (rows.take j)
            have := R8.len
            rw [List.length_take] at *
            omega
          have zz : SqT K H7 tt (sV l) := (z6.q.same s7).sq
          refine ⟨rfl, _, rfl, tt, _, rfl, .inr zz, _, rfl, _, _, rfl, rfl, _, rfl, t7, _, _, _, rfl, rfl, SqT.of hq, atI_nat (j := 1) rfl, _, _, rfl, rfl, _, rfl, _, _, rfl, rfl, _, rfl, ?_⟩
          have ll : (sV l).length = l.length := by rw [sV, List.length_map]
          refine ite2 (fun h1 => ?_) (fun h1 => ?_)
          · refine ⟨_, rfl, _, d7, lt_line (by rw [List.length_map]; omega), s7.upd_own hD2, us ++ [t7], by rw [upd_same, List.map_append]; rfl, ?_⟩
            have h1 := of_decide_eq_true h1
            rw [ll] at h1
            rw [et, if_pos (show roomP l.length (n + 1) most rows[j] = true from decide_eq_true h1)]
            have tk : TK H7 (upd H7 D2 (.lst (us.map V.ref ++ [V.ref t7]))) := TK.lst d7
            exact (u7.keep tk).snoc (tk _ _ hq)
          · refine ⟨s7, us, d7, ?_⟩
            rw [et, if_neg (show ¬ roomP l.length (n + 1) most rows[j] = true from fun e => h1 (by rw [ll]; exact decide_eq_true (of_decide_eq_true e))), List.append_nil]
            exact u7
        · rintro H7 ⟨s7, us, d7, u7⟩
          rw [show (ts.map V.ref).length = rows.length by rw [List.length_map]; exact hT.1, List.take_length] at u7
          have hpos : 0 < (rows.filter (roomP l.length (n + 1) most)).length := by
            obtain ⟨q, q1, q2⟩ := R.leaf
            exact List.length_pos_of_mem (List.mem_filter.mpr ⟨q1, decide_eq_true (by rw [q2]; omega)⟩)
          have hsub : (rows.filter (roomP l.length (n + 1) most)).length ≤ rows.length := List.length_filter_le _ _
          have hin : ∀ q ∈ rows.filter (roomP l.length (n + 1) most), q ∈ rows ∧ ((l.length : Nat) : Int) + ((n + 1 : Nat) : Int) + q.2 ≤ ((most : Nat) : Int) := fun q hq => ⟨(List.mem_filter.mp hq).1, of_decide_eq_true (List.mem_filter.mp hq).2⟩
          generalize rows.filter (roomP l.length (n + 1) most) = rts at u7 hpos hsub hin
          have lu := u7.1
          have b7 := b6.same s7
          have k67 := k6.trans (Kp.same s7)
          refine ⟨_, rfl, _, rfl, D2, _, rfl, .inl (SqL.of d7), _, _, rfl, rfl, .inl ⟨by decide, by decide⟩, a, c, 2 * (us.length : Int), by rw [List.length_map], b7, by omega, by omega, fun H8 e k8 b8 e0 e1 => ?_⟩
          have d8 := k8 _ _ d7 nD2.1
          have k68 := k67.trans k8
          have z8 : Tz H8 tt (sV l) := by
            obtain ⟨o, q1, q2⟩ := z6.same s7
            exact ⟨o, k8 _ _ q1 (fun e => by
              obtain ⟨⟨y, q3⟩, _⟩ := b7.lsts
              rw [e, q3] at q1
              cases q1), q2⟩
          refine ⟨_, rfl, _, rfl, D2, _, rfl, .inl (SqL.of d8), _, _, rfl, rfl, _, rfl, ?_⟩
          have lus : (us.map V.ref).length = us.length := List.length_map ..
          have wr : ∀ t6 : Addr, l.length + 1 ≤ 100000 := fun _ => by omega
          refine ite2 (fun h1 => ?_) (fun h1 => ?_)
          · have h1 := of_decide_eq_true h1
            rw [lus] at h1
            have hj : e.toNat < rts.length := by omega
            obtain ⟨u, u1, u2, u3⟩ := u7.at hj
            have u4 := k8.tkM b7 _ _ u3
            obtain ⟨m4, m5⟩ := hin _ (List.getElem_mem hj)
            generalize rts[e.toNat] = q1 at u3 u4 m4 m5
            have hat : atI (us.map V.ref) e = some (.ref u) := at_ofG (j := e.toNat) (by omega) u2
            refine ⟨_, rfl, _, rfl, _, rfl, D2, _, _, _, rfl, rfl, SqL.of d8, hat, u, _, _, _, rfl, rfl, SqT.of u4, atI_nat (j := 0) rfl, le_line (show 1 ≤ 100000 by decide), fun t6 o6 h6 ho6 => ?_⟩
            have s9 : Same H8 (upd H8 t6 (.frz o6 (.tup [.str q1.1]))) := (Same.refl H8).upd_new h6
            have z9 : Tz (upd H8 t6 (.frz o6 (.tup [.str q1.1]))) t6 (sV [q1.1]) := ⟨o6, upd_same, ho6⟩
            have d9 := s9 _ _ d8
            have u9 := s9 _ _ u4
            have b9 := b8.same s9
            have k69 := k68.trans (Kp.same s9)
            have zl9 := z8.same s9
            generalize upd H8 t6 (.frz o6 (.tup [.str q1.1])) = H9 at s9 z9 d9 u9 b9 k69 zl9
            refine ⟨tt, t6, _, _, rfl, rfl, zl9.q.sq, z9.q.sq, le_line (by rw [sV, sV, List.length_map, List.length_map]; show l.length + 1 ≤ _; omega), (fun e => by rw [sV, List.map_eq_nil_iff] at e; rw [e] at hli; simp at hli), (fun _ e => by simp [sV] at e), fun _ _ p o hp ho => ?_⟩
            have s10 : Same H9 (upd H9 p (.frz o (.tup (sV l ++ sV [q1.1])))) := (Same.refl H9).upd_new hp
            have z10 : Tz (upd H9 p (.frz o (.tup (sV l ++ sV [q1.1])))) p (sV (l ++ [q1.1])) := ⟨o, by rw [upd_same, sV, sV, sV, List.map_append], ho⟩
            refine ⟨_, rfl, _, _, rfl, rfl, _, rfl, _, rfl, D2, _, _, _, rfl, rfl, SqL.of (s10 _ _ d9), hat, u, _, _, _, rfl, rfl, SqT.of (s10 _ _ u9), atI_nat (j := 1) rfl, _, _, rfl, rfl, ?_⟩
            have wq1 := wR_row R m4
            refine ⟨some (.int (0 + (i : Nat))), some (.ref D2), some (.int e), p, l ++ [q1.1], n + wR rows q1.1, ?_, k69.trans (Kp.same s10), b9.same s10, z10, O.snoc _, ?_, ?_, ?_, .inr ?_⟩
            · rw [show ((n + wR rows q1.1 : Nat) : Int) = ((n + 1 : Nat) : Int) - 1 + q1.2 by rw [← wq1]; omega]
              rfl
            · intro z hz
              rcases List.mem_append.mp hz with q | q
              · exact em z q
              · rw [List.mem_singleton.mp q]
                exact .inr ⟨q1, m4, rfl⟩
            · rw [List.length_append]
              show l.length + 1 + _ ≤ _
              omega
            · rw [List.length_append]
              show 2 ≤ l.length + 1 + _
              omega
            · rw [List.length_append, hli]
              rfl
          · refine ⟨_, rfl, le_line (show 1 ≤ 100000 by decide), fun t6 o6 h6 ho6 => ?_⟩
            have s9 : Same H8 (upd H8 t6 (.frz o6 (.tup [.str "*"]))) := (Same.refl H8).upd_new h6
            have z9 : Tz (upd H8 t6 (.frz o6 (.tup [.str "*"]))) t6 (sV ["*"]) := ⟨o6, upd_same, ho6⟩
            have b9 := b8.same s9
            have k69 := k68.trans (Kp.same s9)
            have zl9 := z8.same s9
            generalize upd H8 t6 (.frz o6 (.tup [.str "*"])) = H9 at s9 z9 b9 k69 zl9
            refine ⟨tt, t6, _, _, rfl, rfl, zl9.q.sq, z9.q.sq, le_line (by rw [sV, sV, List.length_map, List.length_map]; show l.length + 1 ≤ _; omega), (fun e => by rw [sV, List.map_eq_nil_iff] at e; rw [e] at hli; simp at hli), (fun _ e => by simp [sV] at e), fun _ _ p o hp ho => ?_⟩
            have s10 : Same H9 (upd H9 p (.frz o (.tup (sV l ++ sV ["*"])))) := (Same.refl H9).upd_new hp
            have z10 : Tz (upd H9 p (.frz o (.tup (sV l ++ sV ["*"])))) p (sV (l ++ [("*" : Str)])) := ⟨o, by rw [upd_same, sV, sV, sV, List.map_append], ho⟩
            refine ⟨_, rfl, _, _, rfl, rfl, ?_⟩
            have O2 := O.snoc "*"
            rw [star_no R, Nat.add_zero] at O2
            refine ⟨some (.int (0 + (i : Nat))), some (.ref D2), some (.int e), p, l ++ [("*" : Str)], n, ?_, k69.trans (Kp.same s10), b9.same s10, z10, O2, ?_, ?_, ?_, .inr ?_⟩
            · rw [show ((n : Nat) : Int) = ((n + 1 : Nat) : Int) - 1 by omega]
              rfl
            · intro z hz
              rcases List.mem_append.mp hz with q | q
              · exact em z q
              · exact .inl (List.mem_singleton.mp q)
            · rw [List.length_append]
              show l.length + 1 + _ ≤ _
              omega
            · rw [List.length_append]
              show 2 ≤ l.length + 1 + _
              omega
            · rw [List.length_append, hli]
              rfl
      · rintro σ H6 ⟨x, y, z, tt, l, n, rfl, k6, b6, z6, O, em, l1, l2, pr⟩
        have n0 : n = 0 := by omega
        subst n0
        exact ⟨_, rfl, fin _ _ l k6 b6 z6 O em (by omega) (by omega)⟩
end
end Sh
end
section
set_option Elab.async false
set_option linter.all false
set_option maxRecDepth 100000
set_option maxHeartbeats 2000000
namespace Sh
open PySem PySem.Spec PyProof.Rows L2
open C8 (pss_cut tCut)
open Evl (ixN_nat)
/-- an entry of a result: a kind, or the number of a hole -/
inductive Ent where
  | k (z : Str)
  | n (i : Nat)
def eV : Ent → V
  | .k z => .str z
  | .n i => .int (i : Nat)
def eW (rows : List Row) : Ent → Nat
  | .k z => wR rows z
  | .n _ => 0
def nums (e : List Ent) : List Nat := e.filterMap fun | .n i => some i | .k _ => none
def knE (e : List Ent) : Nat := e.countP fun | .n _ => false | .k _ => true
structure ResOk (rows : List Row) (s : List Str) (e : List Ent) : Prop where
  f : Mth.forest (eW rows) e 1 = true
  kn : ∀ z, .k z ∈ e → ∃ q ∈ rows, q.1 = z
  nn : ∀ i ∈ nums e, i < s.count ("*" : Str)
  nd : (nums e).Nodup
  sm : knE e + s.count ("*" : Str) < s.length
  len : e.length ≤ 7
theorem nums_snoc (e : List Ent) (x : Ent) : nums (e ++ [x]) = nums e ++ nums [x] := List.filterMap_append ..
theorem knE_snoc (e : List Ent) (x : Ent) : knE (e ++ [x]) = knE e + knE [x] := List.countP_append ..
def resP (m n k : Nat) (q : Row) : Bool := decide (0 < ((m : Nat) : Int) ∧ ((n : Nat) : Int) + q.2 ≤ ((m : Nat) : Int) + ((k : Nat) : Int))
def nV (fs : List Nat) : List V := fs.map fun i => V.int ((i : Nat) : Int)
theorem tz_kp {a c : Addr} {H H' : Hp} {t : Addr} {xs : List V} (z : Tz H t xs) (k : Kp a H H') (b : BagM H a c) : Tz H' t xs := by
  obtain ⟨o, q1, q2⟩ := z
  exact ⟨o, k _ _ q1 (fun e => by
    obtain ⟨⟨y, q3⟩, _⟩ := b.lsts
    rw [e, q3] at q1
    cases q1), q2⟩
theorem seq_nat {j L : Nat} (h : j < L) : seqIndex? ((j : Nat) : Int) L = some j := by
  have q : ¬ ((j : Nat) : Int) < 0 := by omega
  simp only [seqIndex?, if_neg q]
  rw [if_pos (by rw [decide_eq_true (show (0 : Int) ≤ (j : Nat) by omega), decide_eq_true (show ((j : Nat) : Int) < (L : Nat) by omega)]; rfl), Int.toNat_natCast]
theorem er_map {α β : Type} (f : α → β) : ∀ (l : List α) (i : Nat), (l.map f).eraseIdx i = (l.eraseIdx i).map f
  | [], _ => rfl
  | _ :: _, 0 => rfl
  | x :: r, i + 1 => by
    show f x :: (r.map f).eraseIdx i = f x :: (r.eraseIdx i).map f
    rw [er_map f r i]
theorem er_perm {α : Type} : ∀ (l : List α) (i : Nat) (h : i < l.length), (l[i] :: l.eraseIdx i).Perm l
  | [], _, h => absurd h (Nat.not_lt_zero _)
  | _ :: _, 0, _ => List.Perm.refl _
  | x :: r, i + 1, h => (List.Perm.swap _ _ _).trans ((er_perm r i (Nat.lt_of_succ_lt_succ h)).cons x)
theorem catG_tz {K : PySem.W.Frag} {H : Hp} {a b : Addr} {xs ys : List V} {Q : VK} (ha : Tz H a xs) (hb : Tz H b ys) (hl : xs.length + ys.length ≤ 100000) (hy : ys ≠ []) (k : ∀ p H', Same H H' → Tz H' p (xs ++ ys) → Q (.ref p) H') : rCatG K (.ref a) (.ref b) H Q :=
  ⟨a, b, xs, ys, rfl, rfl, ha.q.sq, hb.q.sq, le_line hl, fun e => by subst e; exact k b H (Same.refl H) hb, fun _ e => absurd e hy, fun _ _ p o hp ho => k p _ ((Same.refl H).upd_new hp) ⟨o, upd_same, ho⟩⟩
def spResultM : Sp := fun vs H Q _ => ∃ (a c r t : Addr) (rows : List Row) (s : List Str), vs = [.ref a, .ref r, .ref t] ∧ BagM H a c ∧ r ≠ a ∧ RowsAt H r rows ∧ ROk 4 rows ∧ Tz H t (sV s) ∧ StumpOk rows s ∧ 2 ≤ s.length ∧ s.length ≤ 7 ∧ s.count ("*" : Str) < s.length ∧
  ∀ (H' : Hp) (u : Addr) (e : List Ent), Kp a H H' → BagM H' a c → Tz H' u (e.map eV) → ResOk rows s e → Q (.ref u) H'
abbrev s_law_result : Stmt := top 50
abbrev N_law_result : List Str := ["bag", "kinds", "stump", "free", "room", "row", "need", "k", "choice", "at", "one"]
theorem sc_law_result : FnScope N_law_result ["bag", "kinds", "stump"] (defScope s_law_result) := ⟨rfl, rfl, rfl, by decide +kernel, rfl, by decide +kernel, by decide +kernel⟩
section
variable {P : Program} {w : World} {K : PySem.W.Frag} {mg : Str → Option Value} {base : Heap} {C : Addr}
theorem ok_resultM (T : Bl mg) (c_law_pick : DefOk P w K mg base CX0 1 "_law_pick" spPick) (D : Def0 K mg "_law_result" s_law_result) : DefOk P w K mg base CX0 2 "_law_result" spResultM := by
  refine D.ok sc_law_result (fun vs H Q E h => ?_) (fun _ _ _ _ _ _ us hl => match us, hl with | [_, _, _], _ => rfl) (fun f cdv A outer s' H vs Q E hr h => ?_)
  · obtain ⟨a, c, r, t, rows, s, rfl, _⟩ := h
    rfl
  · obtain ⟨a, c, r, t, rows, s, rfl, hb, nra, ⟨ts, hR, hT⟩, R, hs, SO, s2, s7, sh, k⟩ := h
    have R8 := R.up
    have R8l := R8.len
    refine ⟨_, (pss_cons (ps_set (i := 3) sc_law_result.nd rfl (Or.inr rfl) (pe_listRg rfl (by rfl) T.b_list (prg_1 (by rfl) T.b_range (pe_mG ty_Z PySem.F.plainAttrs_tuple PySem.F.slot_tuple_count PySem.F.type_tuple_count mt_tcount (pv 2) (pa_cons pe_str pa_nil)))))
      (pss_cons (ps_set (i := 4) sc_law_result.nd rfl (Or.inr rfl) (pe_op op_sub (pe_op op_sub (pe_callB call_len_seq (by rfl) T.b_len boot_len (pa_cons (pv 2) pa_nil)) (pe_callB call_len_seq (by rfl) T.b_len boot_len (pa_cons (pv 3) pa_nil))) pe_int))
      (pss_cons (ps_set (i := 5) sc_law_result.nd rfl (Or.inl rfl) (pe_tupF pa_nil))
      (pss_cons (ps_set (i := 6) sc_law_result.nd rfl (Or.inr rfl) pe_int)
      (pss_cons (ps_for PassesOwn.never rfl (pi_range1 (by rfl) T.b_range (pa_cons (pe_callB call_len_seq (by rfl) T.b_len boot_len (pa_cons (pv 2) pa_nil)) pa_nil)) (pg_name (i := 7) sc_law_result.nd rfl (Or.inl rfl))
        (pss_cons (ps_if (pt_cmpR op_eq (pv 6) pe_int (nomark _))
          (pss_one ps_break)
          pss_nil)
        (pss_cons (ps_setLc (i := 8) (own := [("one", 10)]) (g := (gName 10)) rfl sc_law_result.nd rfl rfl (sw_true rfl rfl rfl (by decide +kernel)) (pi_list (pv 1)) (blkOk_by (N := N_law_result) (sc := defScope s_law_result) (by decide +kernel)) (fun _ _ _ _ _ => (pg_name (i := 10) sc_law_result.nd rfl (Or.inl rfl))) (fun _ _ _ _ _ => (pts_one (PW.pt (pw_and (pt_cmpR op_gt (pv 4) pe_int (nomark _)) (pw_and1 (pt_cmpR op_le (pe_op op_add (pv 6) (pe_ix (show IxR _ (rIxT K) from ix_tup) (pv 10) pe_int (fun _ _ => rfl))) (pe_op op_add (pv 4) (pe_callB (show CallR _ _ (Evl.rLenS K) from call_len_seq) (by rfl) T.b_len boot_len (pa_cons (pv 3) pa_nil))) (nomark _))))))) (fun _ _ _ _ _ => (pv 10)))
        (pss_cons (ps_set (i := 9) sc_law_result.nd rfl (Or.inl rfl) (pe_d c_law_pick (hr.mono (by decide)) pass0 (pa_cons (pv 0) (pa_cons (pe_op op_add (pe_callB call_len_seq (by rfl) T.b_len boot_len (pa_cons (pv 8) pa_nil)) (pe_op op_mul pe_int (pe_callB call_len_seq (by rfl) T.b_len boot_len (pa_cons (pv 3) pa_nil)))) pa_nil))))
        (pss_one (ps_if (pt_cmpR op_lt (pv 9) (pe_callB call_len_seq (by rfl) T.b_len boot_len (pa_cons (pv 8) pa_nil)) (nomark _))
          (pss_cons (ps_set (i := 5) sc_law_result.nd rfl (Or.inl rfl) (pe_op op_catG (pv 5) (pe_tupF (pa_cons (pe_ix ix_tup (pe_ix ix_list (pv 8) (pv 9) (fun _ _ => rfl)) pe_int (fun _ _ => rfl)) pa_nil))))
          (pss_cons (ps_set (i := 6) sc_law_result.nd rfl (Or.inr rfl) (pe_op op_add (pe_op op_sub (pv 6) pe_int) (pe_ix ix_tup (pe_ix ix_list (pv 8) (pv 9) (fun _ _ => rfl)) pe_int (fun _ _ => rfl))))
          (pss_one (ps_set (i := 4) sc_law_result.nd rfl (Or.inr rfl) (pe_op op_sub (pv 4) pe_int)))))
          (pss_cons (ps_set (i := 5) sc_law_result.nd rfl (Or.inl rfl) (pe_op op_catG (pv 5) (pe_tupF (pa_cons (pe_bm PySem.F.plainAttrs_list PySem.F.slot_list_pop PySem.F.type_list_pop mt_popAt (pv 3) (pa_cons (pe_op op_fdiv (pe_op op_sub (pv 9) (pe_callB call_len_seq (by rfl) T.b_len boot_len (pa_cons (pv 8) pa_nil))) pe_int) pa_nil)) pa_nil))))
          (pss_one (ps_set (i := 6) sc_law_result.nd rfl (Or.inr rfl) (pe_op op_sub (pv 6) pe_int))))))))))
      (pss_one (ps_ret (pv 5)))))))), ?_⟩
    have ls : (sV s).length = s.length := by rw [sV, List.length_map]
    refine ⟨_, rfl, ⟨t, sV s, rfl, hs⟩, t, s, "*", rfl, rfl, hs.q.sq, _, rfl, .of_le (by omega) (by omega) (by omega) (by omega), fun F hF => ?_⟩
    have nF := hb.ne hF
    have e0 : rgV 0 ((s.count ("*" : Str) : Nat) : Int) = nV (List.range (s.count ("*" : Str))) := by
      unfold rgV nV
      rw [show (((s.count ("*" : Str) : Nat) : Int) - 0).toNat = s.count ("*" : Str) by omega]
      exact List.map_congr_left fun i _ => by rw [Int.zero_add]
    rw [e0]
    have s1 : Same H (upd H F (.lst (nV (List.range (s.count ("*" : Str)))))) := (Same.refl H).upd_new hF
    have f1 : (upd H F (.lst (nV (List.range (s.count ("*" : Str)))))) F = some (.lst (nV (List.range (s.count ("*" : Str))))) := upd_same
    have b1 := hb.same s1
    generalize upd H F (.lst (nV (List.range (s.count ("*" : Str))))) = H1 at s1 f1 b1
    have lf : (nV (List.range (s.count ("*" : Str)))).length = s.count ("*" : Str) := by rw [nV, List.length_map, List.length_range]
    refine ⟨_, rfl, t, _, rfl, .inr (hs.q.same s1).sq, _, rfl, F, _, rfl, .inl (SqL.of f1), _, _, rfl, rfl, _, _, rfl, rfl, ?_⟩
    refine ⟨le_line (show 0 ≤ 100000 by decide), fun t5 o5 h5 ho5 => ?_⟩
    have s5 : Same H1 (upd H1 t5 (.frz o5 (.tup []))) := (Same.refl H1).upd_new h5
    have z5 : Tz (upd H1 t5 (.frz o5 (.tup []))) t5 (([] : List Ent).map eV) := ⟨o5, upd_same, ho5⟩
    have b5 := b1.same s5
    have f5 := s5 _ _ f1
    have s15 := s1.trans s5
    generalize upd H1 t5 (.frz o5 (.tup [])) = H5 at s5 z5 b5 f5 s15
    have fin : ∀ (H' : Hp) (tt : Addr) (l : List Ent) (fs : List Nat) (m : Nat), Kp a H H' → BagM H' a c → Tz H' tt (l.map eV) → Opn (eW rows) l 0 → (∀ z, .k z ∈ l → ∃ q ∈ rows, q.1 = z) → (nums l ++ fs).Nodup → (∀ i ∈ nums l ++ fs, i < s.count ("*" : Str)) → knE l + m + s.count ("*" : Str) + 1 = s.length → l.length ≤ 7 → Q (.ref tt) H' :=
      fun H' tt l fs m k' b' z' o' e' nd' nn' kk' l' => k _ _ l k' b' z' ⟨o'.done, e', fun i hi => nn' i (List.mem_append_left _ hi), (List.nodup_append.mp nd').1, by omega, l'⟩
    refine ⟨_, rfl, t, _, rfl, .inr (hs.q.same s15).sq, _, rfl, by omega, by omega, for_range (n := (((sV s).length : Nat) : Int).toNat) (fun i σ H' => ∃ (x y z : Option V) (tt : Addr) (l : List Ent) (fs : List Nat) (m n : Nat), σ = [some (.ref a), some (.ref r), some (.ref t), some (.ref F), some (.int (m : Nat)), some (.ref tt), some (.int (n : Nat)), x, y, z, none] ∧
        Kp a H H' ∧ BagM H' a c ∧ Tz H' tt (l.map eV) ∧ H' F = some (.lst (nV fs)) ∧ Opn (eW rows) l n ∧ (∀ z, .k z ∈ l → ∃ q ∈ rows, q.1 = z) ∧ (nums l ++ fs).Nodup ∧ (∀ i ∈ nums l ++ fs, i < s.count ("*" : Str)) ∧ knE l + m + s.count ("*" : Str) + 1 = s.length ∧ n ≤ m + fs.length ∧ l.length ≤ i ∧ l.length ≤ 7 ∧ (n = 0 ∨ m + fs.length + i + 1 = s.length))
      ⟨none, none, none, t5, [], List.range (s.count ("*" : Str)), s.length - s.count ("*" : Str) - 1, 1, ?_, Kp.same s15, b5, z5, f5, Opn.nil, (fun z hz => nomatch hz), List.nodup_range, (fun i hi => List.mem_range.mp hi), ?_, ?_, Nat.le_refl _, Nat.zero_le _, .inr ?_⟩ ?_ ?_⟩
    · rw [ls, lf, show ((s.length - s.count ("*" : Str) - 1 : Nat) : Int) = ((s.length : Nat) : Int) - ((s.count ("*" : Str) : Nat) : Int) - 1 by omega]
      rfl
    · show 0 + _ + _ + 1 = _
      omega
    · rw [List.length_range]
      omega
    · rw [List.length_range]
      omega
    · rintro i σ H6 hi ⟨x, y, z, tt, l, fs, m, n, rfl, k6, b6, z6, f6, O, em, nd, nn, kk, l1, l2, l7, pr⟩
      have hR6 := k6 _ _ hR nra
      have hT6 : TupsAt H6 ts rows := hT.keep (k6.tkM hb)
      refine ⟨_, rfl, rfl, _, rfl, ite2 (fun h0 => ?_) (fun h0 => ?_)⟩
      · have n0 : n = 0 := by
          have := int_eq0 h0
          omega
        subst n0
        exact ⟨_, rfl, fin _ _ l fs m k6 b6 z6 O em nd nn kk l7⟩
      have hn0 : n ≠ 0 := fun e => h0 (by rw [e]; exact decide_eq_true rfl)
      obtain ⟨n, rfl⟩ := Nat.exists_eq_succ_of_ne_zero hn0
      have hpr : m + fs.length + i + 1 = s.length := by omega
      refine ⟨_, rfl, r, rfl, ⟨_, SqL.of hR6⟩, fun D2 hD2 => ?_⟩
      have nD2 := b6.ne hD2
      have nDr2 : r ≠ D2 := ne_of_none hR6 hD2
      have nDF2 : F ≠ D2 := ne_of_none f6 hD2
      have lnf : (nV fs).length = fs.length := by rw [nV, List.length_map]
      refine lc_list (xs := ts.map V.ref) (fun i H' => Same H6 H' ∧ ∃ us, H' D2 = some (.lst (us.map V.ref)) ∧ TupsAt H' us ((rows.take i).filter (resP m (n + 1) fs.length)))
        ⟨(Same.refl H6).upd_new hD2, [], upd_same, rfl, fun i t q hi => by simp at hi⟩ (fun i H' _ ⟨q, _⟩ => SqL.of (q _ _ hR6)) ?_ ?_
      · rintro j v H7 hv ⟨s7, us, d7, u7⟩
        obtain ⟨t7, ht7, rfl⟩ := get_map hv
        have hj : j < rows.length := by rw [← hT6.1]; exact lt_of_get ht7
        have hq := s7 _ _ (hT6.2 j t7 rows[j] ht7 (List.getElem?_eq_getElem hj))
        have et := flt_snoc (p := resP m (n + 1) fs.length) (List.getElem?_eq_getElem hj)
        have lu : us.length ≤ 8 := by
          rw [u7.1]
          have := List.length_filter_le (resP m (n + 1) fs.length) (rows.take j)
          rw [List.length_take] at *
          omega
        have no : ¬ resP m (n + 1) fs.length rows[j] = true → Same H6 H7 ∧ ∃ us, H7 D2 = some (.lst (us.map V.ref)) ∧ TupsAt H7 us ((rows.take (j + 1)).filter (resP m (n + 1) fs.length)) := fun h => by
          refine ⟨s7, us, d7, ?_⟩
          rw [et, if_neg h, List.append_nil]
          exact u7
        refine ⟨rfl, _, rfl, _, _, rfl, rfl, _, rfl, ?_⟩
        refine ite2 (fun h1 => ?_) (fun h1 => no fun e => h1 (decide_eq_true (of_decide_eq_true e).1))
        refine ⟨_, rfl, _, rfl, t7, _, _, _, rfl, rfl, SqT.of hq, atI_nat (j := 1) rfl, _, _, rfl, rfl, _, rfl, _, rfl, F, _, rfl, .inl (SqL.of (s7 _ _ f6)), _, _, rfl, rfl, _, _, rfl, rfl, _, rfl, ?_⟩
        refine ite2 (fun h2 => ?_) (fun h2 => no fun e => h2 (by rw [lnf]; exact decide_eq_true (of_decide_eq_true e).2))
        refine ⟨_, rfl, _, d7, lt_line (by rw [List.length_map]; omega), s7.upd_own hD2, us ++ [t7], by rw [upd_same, List.map_append]; rfl, ?_⟩
        have h1 := of_decide_eq_true h1
        have h2 := of_decide_eq_true h2
        rw [lnf] at h2
        rw [et, if_pos (show resP m (n + 1) fs.length rows[j] = true from decide_eq_true ⟨h1, h2⟩)]
        have tk : TK H7 (upd H7 D2 (.lst (us.map V.ref ++ [V.ref t7]))) := TK.lst d7
        exact (u7.keep tk).snoc (tk _ _ hq)
      · rintro H7 ⟨s7, us, d7, u7⟩
        rw [show (ts.map V.ref).length = rows.length by rw [List.length_map]; exact hT.1, List.take_length] at u7
        have hsub : (rows.filter (resP m (n + 1) fs.length)).length ≤ rows.length := List.length_filter_le _ _
        have hpos : 0 < (rows.filter (resP m (n + 1) fs.length)).length + 2 * fs.length := by
          by_cases hm : 0 < m
          · obtain ⟨q, q1, q2⟩ := R.leaf
            have := List.length_pos_of_mem (List.mem_filter.mpr ⟨q1, (show resP m (n + 1) fs.length q = true from decide_eq_true (by rw [q2]; omega))⟩)
            omega
          · omega
        have hin : ∀ q ∈ rows.filter (resP m (n + 1) fs.length), q ∈ rows ∧ 0 < m ∧ ((n + 1 : Nat) : Int) + q.2 ≤ ((m : Nat) : Int) + ((fs.length : Nat) : Int) := fun q hq => by
          have z := of_decide_eq_true (List.mem_filter.mp hq).2
          exact ⟨(List.mem_filter.mp hq).1, by omega, z.2⟩
        generalize rows.filter (resP m (n + 1) fs.length) = rts at u7 hpos hsub hin
        have lu := u7.1
        have b7 := b6.same s7
        have f7 := s7 _ _ f6
        have k67 := k6.trans (Kp.same s7)
        refine ⟨_, rfl, _, rfl, D2, _, rfl, .inl (SqL.of d7), _, rfl, F, _, rfl, .inl (SqL.of f7), _, _, rfl, rfl, .inl ⟨by decide, by decide⟩, _, _, rfl, rfl, a, c, (us.length : Int) + 2 * (fs.length : Int), by rw [List.length_map, lnf], b7, by omega, by omega, fun H8 e k8 b8 e0 e1 => ?_⟩
        have d8 := k8 _ _ d7 nD2.1
        have f8 := k8 _ _ f7 nF.1
        have k68 := k67.trans k8
        have z8 := tz_kp (z6.same s7) k8 b7
        refine ⟨_, rfl, _, rfl, D2, _, rfl, .inl (SqL.of d8), _, _, rfl, rfl, _, rfl, ?_⟩
        have lus : (us.map V.ref).length = us.length := List.length_map ..
        refine ite2 (fun h1 => ?_) (fun h1 => ?_)
        · have h1 := of_decide_eq_true h1
          rw [lus] at h1
          have hj : e.toNat < rts.length := by omega
          obtain ⟨u, u1, u2, u3⟩ := u7.at hj
          have u4 := k8.tkM b7 _ _ u3
          obtain ⟨m4, m5, m6⟩ := hin _ (List.getElem_mem hj)
          generalize rts[e.toNat] = q1 at u3 u4 m4 m6
          have hat : atI (us.map V.ref) e = some (.ref u) := at_ofG (j := e.toNat) (by omega) u2
          refine ⟨_, rfl, _, rfl, _, rfl, D2, _, _, _, rfl, rfl, SqL.of d8, hat, u, _, _, _, rfl, rfl, SqT.of u4, atI_nat (j := 0) rfl, le_line (show 1 ≤ 100000 by decide), fun t6 o6 h6 ho6 => ?_⟩
          have s9 : Same H8 (upd H8 t6 (.frz o6 (.tup [.str q1.1]))) := (Same.refl H8).upd_new h6
          have z9 : Tz (upd H8 t6 (.frz o6 (.tup [.str q1.1]))) t6 ([Ent.k q1.1].map eV) := ⟨o6, upd_same, ho6⟩
          have d9 := s9 _ _ d8
          have f9 := s9 _ _ f8
          have u9 := s9 _ _ u4
          have b9 := b8.same s9
          have k69 := k68.trans (Kp.same s9)
          have zl9 := z8.same s9
          generalize upd H8 t6 (.frz o6 (.tup [.str q1.1])) = H9 at s9 z9 d9 f9 u9 b9 k69 zl9
          refine catG_tz zl9 z9 (by rw [List.length_map]; show l.length + 1 ≤ _; omega) (fun e => nomatch e) fun p H10 s10 z10 => ?_
          rw [← List.map_append] at z10
          refine ⟨_, rfl, _, _, rfl, rfl, _, rfl, _, rfl, D2, _, _, _, rfl, rfl, SqL.of (s10 _ _ d9), hat, u, _, _, _, rfl, rfl, SqT.of (s10 _ _ u9), atI_nat (j := 1) rfl, _, _, rfl, rfl, _, rfl, _, _, rfl, rfl, ?_⟩
          have wq1 := wR_row R m4
          obtain ⟨m, rfl⟩ := Nat.exists_eq_succ_of_ne_zero (Nat.ne_of_gt m5)
          refine ⟨some (.int (0 + (i : Nat))), some (.ref D2), some (.int e), p, l ++ [Ent.k q1.1], fs, m, n + wR rows q1.1, ?_, k69.trans (Kp.same s10), b9.same s10, z10, s10 _ _ f9, O.snoc _, ?_, ?_, ?_, ?_, ?_, ?_, ?_, .inr ?_⟩
          · rw [show ((n + wR rows q1.1 : Nat) : Int) = ((n + 1 : Nat) : Int) - 1 + q1.2 by rw [← wq1]; omega, show ((m : Nat) : Int) = ((m + 1 : Nat) : Int) - 1 by omega]
            rfl
          · intro z hz
            rcases List.mem_append.mp hz with q | q
            · exact em z q
            · cases List.mem_singleton.mp q
              exact ⟨q1, m4, rfl⟩
          · rw [nums_snoc]
            show (nums l ++ [] ++ fs).Nodup
            rw [List.append_nil]
            exact nd
          · rw [nums_snoc]
            show ∀ i ∈ nums l ++ [] ++ fs, _
            rw [List.append_nil]
            exact nn
          · rw [knE_snoc]
            show knE l + 1 + m + _ + 1 = _
            omega
          · omega
          · rw [List.length_append]
            show l.length + 1 ≤ _
            omega
          · rw [List.length_append]
            show l.length + 1 ≤ _
            omega
          · omega
        · have h1 : ¬ e < (us.length : Int) := fun q => h1 (by rw [lus]; exact decide_eq_true q)
          have hk : ((e - (us.length : Int)) / 2).toNat < fs.length := by omega
          have hkz : (e - (us.length : Int)) / 2 = ((((e - (us.length : Int)) / 2).toNat : Nat) : Int) := by omega
          generalize hkk : ((e - (us.length : Int)) / 2).toNat = kk2 at hk hkz
          refine ⟨_, rfl, _, rfl, .inl ⟨rfl, _, SqL.of f8⟩, _, rfl, _, rfl, D2, _, rfl, .inl (SqL.of d8), _, _, rfl, rfl, _, _, rfl, rfl, ⟨by decide, by decide⟩, F, _, _, kk2, _, rfl, rfl, f8, by rw [lus]; omega, by rw [lus]; omega, ?_, by rw [nV, List.getElem?_map, List.getElem?_eq_getElem hk]; rfl, ?_⟩
          · rw [lus, hkz, lnf]
            exact seq_nat hk
          have ef : (nV fs).eraseIdx kk2 = nV (fs.eraseIdx kk2) := by rw [nV, nV, er_map]
          rw [ef]
          have f85 : (upd H8 F (.lst (nV (fs.eraseIdx kk2)))) F = some (.lst (nV (fs.eraseIdx kk2))) := upd_same
          have b85 := b8.upd_ne (o := .lst (nV (fs.eraseIdx kk2))) nF
          have k685 : Kp a H (upd H8 F (.lst (nV (fs.eraseIdx kk2)))) := k68.upd_own hF
          have z85 : Tz (upd H8 F (.lst (nV (fs.eraseIdx kk2)))) tt (l.map eV) := by
            obtain ⟨o, q1, q2⟩ := z8
            exact ⟨o, by rw [upd_ne (fun e => by rw [e, f8] at q1; cases q1)]; exact q1, q2⟩
          generalize upd H8 F (.lst (nV (fs.eraseIdx kk2))) = H85 at f85 b85 k685 z85
          refine ⟨le_line (show 1 ≤ 100000 by decide), fun t6 o6 h6 ho6 => ?_⟩
          have s9 : Same H85 (upd H85 t6 (.frz o6 (.tup [.int (fs[kk2] : Nat)]))) := (Same.refl H85).upd_new h6
          have z9 : Tz (upd H85 t6 (.frz o6 (.tup [.int (fs[kk2] : Nat)]))) t6 ([Ent.n fs[kk2]].map eV) := ⟨o6, upd_same, ho6⟩
          have f9 := s9 _ _ f85
          have b9 := b85.same s9
          have k69 := k685.trans (Kp.same s9)
          have zl9 := z85.same s9
          generalize upd H85 t6 (.frz o6 (.tup [.int (fs[kk2] : Nat)])) = H9 at s9 z9 f9 b9 k69 zl9
          refine catG_tz zl9 z9 (by rw [List.length_map]; show l.length + 1 ≤ _; omega) (fun e => nomatch e) fun p H10 s10 z10 => ?_
          rw [← List.map_append] at z10
          refine ⟨_, rfl, _, _, rfl, rfl, ?_⟩
          have pm : (nums l ++ [fs[kk2]] ++ fs.eraseIdx kk2).Perm (nums l ++ fs) := by
            rw [List.append_assoc]
            exact (er_perm fs kk2 hk).append_left _
          have le' : (fs.eraseIdx kk2).length + 1 = fs.length := by rw [List.length_eraseIdx_of_lt hk]; omega
          refine ⟨some (.int (0 + (i : Nat))), some (.ref D2), some (.int e), p, l ++ [Ent.n fs[kk2]], fs.eraseIdx kk2, m, n, ?_, k69.trans (Kp.same s10), b9.same s10, z10, s10 _ _ f9, O.snoc _, ?_, ?_, ?_, ?_, ?_, ?_, ?_, .inr ?_⟩
          · rw [show ((n : Nat) : Int) = ((n + 1 : Nat) : Int) - 1 by omega]
            rfl
          · intro z hz
            rcases List.mem_append.mp hz with q | q
            · exact em z q
            · cases List.mem_singleton.mp q
          · rw [nums_snoc]
            exact pm.nodup_iff.mpr nd
          · rw [nums_snoc]
            exact fun i hi => nn i (pm.mem_iff.mp hi)
          · rw [knE_snoc]
            show knE l + 0 + m + _ + 1 = _
            omega
          · omega
          · rw [List.length_append]
            show l.length + 1 ≤ _
            omega
          · rw [List.length_append]
            show l.length + 1 ≤ _
            omega
          · omega
    · rintro σ H6 ⟨x, y, z, tt, l, fs, m, n, rfl, k6, b6, z6, f6, O, em, nd, nn, kk, l1, l2, l7, pr⟩
      have n0 : n = 0 := by rw [Int.toNat_natCast, ls] at pr; omega
      subst n0
      exact ⟨_, rfl, fin _ _ l fs m k6 b6 z6 O em nd nn kk l7⟩
end
end Sh
end
section
set_option Elab.async false
set_option linter.all false
set_option maxRecDepth 100000
set_option maxHeartbeats 2000000
namespace Sh
open PySem PySem.Spec PyProof.Rows L2
open C8 (pss_cut tCut)
open Evl (ixN_nat)
structure TrimOk (rows : List Row) (s : List Str) (e : List Ent) : Prop where
  st : StumpOk rows s
  l2 : 2 ≤ s.length
  l7 : s.length ≤ 7
  re : ResOk rows s e
/-- a pair of a stump and a result, laid out -/
def PrAt (rows : List Row) (H : Hp) (p : Addr) (q : List Str × List Ent) : Prop := ∃ t u, Tz H p [.ref t, .ref u] ∧ Tz H t (sV q.1) ∧ Tz H u (q.2.map eV) ∧ TrimOk rows q.1 q.2
theorem PrAt.same {rows : List Row} {H H' : Hp} {p : Addr} {q : List Str × List Ent} (x : PrAt rows H p q) (s : Same H H') : PrAt rows H' p q := by
  obtain ⟨t, u, a, b, c, d⟩ := x
  exact ⟨t, u, a.same s, b.same s, c.same s, d⟩
theorem PrAt.kp {rows : List Row} {a c : Addr} {H H' : Hp} {p : Addr} {q : List Str × List Ent} (x : PrAt rows H p q) (k : Kp a H H') (b : BagM H a c) : PrAt rows H' p q := by
  obtain ⟨t, u, x1, x2, x3, d⟩ := x
  exact ⟨t, u, tz_kp x1 k b, tz_kp x2 k b, tz_kp x3 k b, d⟩
theorem Opn.reps {α : Type} {w : α → Nat} {x : α} (hx : w x = 0) : ∀ (k : Nat) {l : List α} {n : Nat}, Opn w l (n + k) → Opn w (l ++ List.replicate k x) n
  | 0, l, n, h => by
    rw [List.replicate_zero, List.append_nil]
    exact h
  | k + 1, l, n, h => by
    have q := Opn.snoc (n := n + k) h x
    rw [hx, Nat.add_zero] at q
    have r := Opn.reps hx k q
    rw [List.append_assoc] at r
    exact r
theorem nm_nstar {z : Str} (h : IsNm z) : z ≠ "*" := fun e => by
  have q := h.2.2 42 (by rw [e]; decide)
  omega
theorem flat_reps (k : Nat) (v : V) : (List.replicate k [v]).flatten = List.replicate k v := by
  induction k with
  | zero => rfl
  | succ k ih => rw [List.replicate_succ, List.flatten_cons, ih, List.replicate_succ]; rfl
/-- (v,) * k, followed with its object -/
theorem repX_tz {K : PySem.W.Frag} {H : Hp} {a : Addr} {v : V} {k : Nat} {Q : VK} (ha : Tz H a [v]) (hk : k ≤ 4000) (kk : ∀ p H', Same H H' → Tz H' p (List.replicate k v) → Q (.ref p) H') : rRepX K (.ref a) (.int (k : Nat)) H Q :=
  ⟨a, (k : Nat), [v], rfl, rfl, ha.q.sq, (fun e => nomatch e), by omega, by omega, by show 1 ≤ 100; decide, fun e => by
    have e1 : k = 1 := by omega
    subst e1
    exact kk a H (Same.refl H) ha, fun _ p o hp ho => kk p _ ((Same.refl H).upd_new hp) ⟨o, by rw [upd_same, Int.toNat_natCast, flat_reps], ho⟩⟩
theorem catG_any {K : PySem.W.Frag} {H : Hp} {a b : Addr} {xs ys : List V} {Q : VK} (ha : Tz H a xs) (hb : Tz H b ys) (hl : xs.length + ys.length ≤ 100000) (k : ∀ p H', Same H H' → Tz H' p (xs ++ ys) → Q (.ref p) H') : rCatG K (.ref a) (.ref b) H Q :=
  ⟨a, b, xs, ys, rfl, rfl, ha.q.sq, hb.q.sq, le_line hl, fun e => by subst e; exact k b H (Same.refl H) hb, fun _ e => by subst e; exact k a H (Same.refl H) (by rw [List.append_nil]; exact ha), fun _ _ p o hp ho => k p _ ((Same.refl H).upd_new hp) ⟨o, upd_same, ho⟩⟩
theorem new_tz {H : Hp} {p : Addr} {o : Obj} {xs : List V} (h : H p = none) (ho : o.dict = none) : Same H (upd H p (.frz o (.tup xs))) ∧ Tz (upd H p (.frz o (.tup xs))) p xs := ⟨(Same.refl H).upd_new h, o, upd_same, ho⟩
def spTameM : Sp := fun vs H Q _ => ∃ (a c r : Addr) (z : Str) (rows rts : List Row) (ts : List Addr), vs = [.ref a, .ref r, .str z] ∧ BagM H a c ∧ r ≠ a ∧ H r = some (.lst (ts.map V.ref)) ∧ TupsAt H ts rts ∧ (∀ q ∈ rts, q ∈ rows ∧ 0 < q.2) ∧ 0 < rts.length ∧ rts.length ≤ 8 ∧ ROk 4 rows ∧ (z, 0) ∈ rows ∧
  ∀ (H' : Hp) (p : Addr) (q : List Str × List Ent), Kp a H H' → BagM H' a c → PrAt rows H' p q → Q (.ref p) H'
abbrev s_law_tame : Stmt := top 51
abbrev N_law_tame : List Str := ["bag", "roots", "zero", "pair", "at", "stump"]
theorem sc_law_tame : FnScope N_law_tame ["bag", "roots", "zero"] (defScope s_law_tame) := ⟨rfl, rfl, rfl, by decide +kernel, rfl, by decide +kernel, by decide +kernel⟩
section
variable {P : Program} {w : World} {K : PySem.W.Frag} {mg : Str → Option Value} {base : Heap} {C : Addr}
theorem ok_tameM (T : Bl mg) (c_law_pick : DefOk P w K mg base CX0 1 "_law_pick" spPick) (D : Def0 K mg "_law_tame" s_law_tame) : DefOk P w K mg base CX0 2 "_law_tame" spTameM := by
  refine D.ok sc_law_tame (fun vs H Q E h => ?_) (fun _ _ _ _ _ _ us hl => match us, hl with | [_, _, _], _ => rfl) (fun f cdv A outer s' H vs Q E hr h => ?_)
  · obtain ⟨a, c, r, z, rows, rts, ts, rfl, _⟩ := h
    rfl
  · obtain ⟨a, c, r, z, rows, rts, ts, rfl, hb, nra, hR, hT, hin, hpos, h8, R, hz, k⟩ := h
    have hl := hT.1
    refine ⟨_, (pss_cons (ps_set (i := 3) sc_law_tame.nd rfl (Or.inl rfl) (pe_ix ix_list (pv 1) (pe_d c_law_pick (hr.mono (by decide)) pass0 (pa_cons (pv 0) (pa_cons (pe_callB call_len_seq (by rfl) T.b_len boot_len (pa_cons (pv 1) pa_nil)) pa_nil))) (fun _ _ => rfl)))
      (pss_cut (ps_if (PW.pt (pw_and (pt_cmpR op_eq (pe_ix ix_tup (pv 3) pe_int (fun _ _ => rfl)) pe_int (nomark _)) (pw_and1 (pt_cmpR op_eq (pe_d c_law_pick (hr.mono (by decide)) pass0 (pa_cons (pv 0) (pa_cons pe_int pa_nil))) pe_int (nomark _)))))
        (pss_one (ps_ret (pe_tupF (pa_cons (pe_tupF (pa_cons (pe_ix ix_tup (pv 3) pe_int (fun _ _ => rfl)) (pa_cons (pe_ix ix_tup (pv 3) pe_int (fun _ _ => rfl)) (pa_cons pe_str pa_nil)))) (pa_cons (pe_tupF (pa_cons (pe_ix ix_tup (pv 3) pe_int (fun _ _ => rfl)) (pa_cons pe_int pa_nil))) pa_nil)))))
        pss_nil)
      (pss_cons (ps_set (i := 4) sc_law_tame.nd rfl (Or.inl rfl) (pe_d c_law_pick (hr.mono (by decide)) pass0 (pa_cons (pv 0) (pa_cons (pe_ix ix_tup (pv 3) pe_int (fun _ _ => rfl)) pa_nil))))
      (pss_cons (ps_set (i := 5) sc_law_tame.nd rfl (Or.inl rfl) (pe_op op_catG (pe_op op_catG (pe_op op_catG (pe_tupF (pa_cons (pe_ix ix_tup (pv 3) pe_int (fun _ _ => rfl)) pa_nil)) (pe_op op_repX (pe_tupF (pa_cons pe_str pa_nil)) (pv 4))) (pe_tupF (pa_cons (pv 2) pa_nil))) (pe_op op_repX (pe_tupF (pa_cons pe_str pa_nil)) (pe_op op_sub (pe_op op_sub (pe_ix ix_tup (pv 3) pe_int (fun _ _ => rfl)) pe_int) (pv 4)))))
      (pss_cut (ps_if (PW.pt (pw_and (pt_cmpR op_gt (pe_ix ix_tup (pv 3) pe_int (fun _ _ => rfl)) pe_int (nomark _)) (pw_and1 (pt_cmpR op_eq (pe_d c_law_pick (hr.mono (by decide)) pass0 (pa_cons (pv 0) (pa_cons pe_int pa_nil))) pe_int (nomark _)))))
        (pss_one (ps_ret (pe_tupF (pa_cons (pv 5) (pa_cons (pe_tupF (pa_cons pe_int pa_nil)) pa_nil)))))
        pss_nil)
      (pss_one (ps_ret (pe_tupF (pa_cons (pv 5) (pa_cons (pe_tupF (pa_cons (pv 2) pa_nil)) pa_nil)))))))))), ?_⟩
    refine ⟨_, rfl, _, rfl, _, rfl, r, _, rfl, .inl (SqL.of hR), a, c, (ts.length : Int), by rw [List.length_map], hb, by omega, by omega, fun H1 j k1 b1 j0 j1 => ?_⟩
    have hj : j.toNat < rts.length := by omega
    obtain ⟨t, t1, t2, t3⟩ := hT.at hj
    have t4 := k1.tkM hb _ _ t3
    refine ⟨r, _, _, _, rfl, rfl, SqL.of (k1 _ _ hR nra), at_ofG (j := j.toNat) (by omega) t2, ?_⟩
    obtain ⟨m1, m2⟩ := hin _ (List.getElem_mem hj)
    generalize rts[j.toNat] = q0 at t3 t4 m1 m2
    have wq := wR_row R m1
    have w0 := star_no R
    have wz : wR rows z = 0 := by
      have h : ((wR rows z : Nat) : Int) = 0 := wR_row R hz
      omega
    have n0 := R.nm _ m1
    have nz := R.nm _ hz
    have w3 : q0.2 ≤ 3 := (R.wd _ m1).2
    refine ⟨fun σ H' => σ = [some (.ref a), some (.ref r), some (.str z), some (.ref t), none, none] ∧ Kp a H H' ∧ BagM H' a c ∧ H' t = some (.tup [.str q0.1, .int q0.2]), ?_, ?_⟩
    · refine ⟨_, rfl, t, _, _, _, rfl, rfl, SqT.of t4, atI_nat (j := 1) rfl, rfl, _, rfl, ?_⟩
      refine ite2 (fun e1 => ?_) (fun _ => ⟨rfl, k1, b1, t4⟩)
      refine ⟨_, rfl, a, c, 2, rfl, b1, by decide, by decide, fun H2 d k2 b2 d0 d1 => ?_⟩
      have t5 := k2.tkM b1 _ _ t4
      have k02 := k1.trans k2
      refine ⟨rfl, _, rfl, ite2 (fun _ => ?_) (fun _ => ⟨rfl, k02, b2, t5⟩)⟩
      have w1 : wR rows q0.1 = 1 := by
        have := int_eq0 e1
        omega
      refine ⟨_, rfl, t, _, _, _, rfl, rfl, SqT.of t5, atI_nat (j := 0) rfl, _, rfl, t, _, _, _, rfl, rfl, SqT.of t5, atI_nat (j := 0) rfl, le_line (show 3 ≤ 100000 by decide), fun p1 o1 h1 ho1 => ?_⟩
      have s3 : Same H2 (upd H2 p1 (.frz o1 (.tup [.str q0.1, .str q0.1, .str "*"]))) := (Same.refl H2).upd_new h1
      have z3 : Tz (upd H2 p1 (.frz o1 (.tup [.str q0.1, .str q0.1, .str "*"]))) p1 (sV [q0.1, q0.1, "*"]) := ⟨o1, upd_same, ho1⟩
      have t6 := s3 _ _ t5
      generalize upd H2 p1 (.frz o1 (.tup [.str q0.1, .str q0.1, .str "*"])) = H3 at s3 z3 t6
      refine ⟨_, rfl, t, _, _, _, rfl, rfl, SqT.of t6, atI_nat (j := 0) rfl, le_line (show 2 ≤ 100000 by decide), fun p2 o2 h2 ho2 => ?_⟩
      have s4 : Same H3 (upd H3 p2 (.frz o2 (.tup [.str q0.1, .int 0]))) := (Same.refl H3).upd_new h2
      have z4 : Tz (upd H3 p2 (.frz o2 (.tup [.str q0.1, .int 0]))) p2 ([Ent.k q0.1, Ent.n 0].map eV) := ⟨o2, upd_same, ho2⟩
      have z34 := z3.same s4
      generalize upd H3 p2 (.frz o2 (.tup [.str q0.1, .int 0])) = H4 at s4 z4 z34
      refine ⟨le_line (show 2 ≤ 100000 by decide), fun p3 o3 h3 ho3 => ?_⟩
      have s5 : Same H4 (upd H4 p3 (.frz o3 (.tup [.ref p1, .ref p2]))) := (Same.refl H4).upd_new h3
      have sall := (s3.trans s4).trans s5
      refine k _ _ ([q0.1, q0.1, "*"], [Ent.k q0.1, Ent.n 0]) (k02.trans (Kp.same sall)) (b2.same sall) ⟨p1, p2, ⟨o3, upd_same, ho3⟩, z34.same s5, z4.same s5, ⟨⟨?_, ?_, ?_⟩, ?_, ?_, ⟨?_, ?_, ?_, ?_, ?_, ?_⟩⟩⟩
      · have q := ((Opn.nil (w := wR rows)).snoc q0.1)
        rw [w1] at q
        have q := Opn.snoc (n := 0) q q0.1
        rw [w1] at q
        have q := Opn.snoc (n := 0) q "*"
        rw [w0] at q
        exact q.done
      · intro y hy
        rcases List.mem_cons.mp hy with e | hy
        · exact .inr ⟨q0, m1, e.symm⟩
        · rcases List.mem_cons.mp hy with e | hy
          · exact .inr ⟨q0, m1, e.symm⟩
          · exact .inl (List.mem_singleton.mp hy)
      · show 3 ≤ 2000
        decide
      · show 2 ≤ 3
        decide
      · show 3 ≤ 7
        decide
      · have q := ((Opn.nil (w := eW rows)).snoc (Ent.k q0.1))
        rw [show eW rows (Ent.k q0.1) = 1 from w1] at q
        have q := Opn.snoc (n := 0) q (Ent.n 0)
        exact q.done
      · intro y hy
        rcases List.mem_cons.mp hy with e | hy
        · cases e
          exact ⟨q0, m1, rfl⟩
        · cases List.mem_singleton.mp hy
      · have cn : List.count ("*" : Str) [q0.1, q0.1, "*"] = 1 := by
          rw [List.count_cons_of_ne (nm_nstar n0), List.count_cons_of_ne (nm_nstar n0)]
          rfl
        intro i hi
        rw [cn]
        have : i = 0 := List.mem_singleton.mp hi
        omega
      · exact List.nodup_cons.mpr ⟨List.not_mem_nil, List.nodup_nil⟩
      · have cn : List.count ("*" : Str) [q0.1, q0.1, "*"] = 1 := by
          rw [List.count_cons_of_ne (nm_nstar n0), List.count_cons_of_ne (nm_nstar n0)]
          rfl
        show 1 + _ < 3
        rw [cn]
        decide
      · show 2 ≤ 7
        decide
    · rintro σ H2 ⟨rfl, k2, b2, t5⟩
      refine ⟨_, rfl, _, rfl, t, _, _, _, rfl, rfl, SqT.of t5, atI_nat (j := 1) rfl, a, c, q0.2, rfl, b2, by omega, by omega, fun H3 j k3 b3 j0 j1 => ?_⟩
      obtain ⟨j, rfl⟩ := Int.eq_ofNat_of_zero_le j0
      have t6 := k3.tkM b2 _ _ t5
      have k03 := k2.trans k3
      obtain ⟨g, hg⟩ : ∃ g : Nat, wR rows q0.1 = j + 1 + g := ⟨wR rows q0.1 - j - 1, by omega⟩
      have hgz : q0.2 - 1 - ((j : Nat) : Int) = ((g : Nat) : Int) := by omega
      refine ⟨_, rfl, t, _, _, _, rfl, rfl, SqT.of t6, atI_nat (j := 0) rfl, le_line (show 1 ≤ 100000 by decide), fun p1 o1 h1 ho1 => ?_⟩
      obtain ⟨s1, z1⟩ := new_tz (xs := [.str q0.1]) h1 ho1
      generalize upd H3 p1 (.frz o1 (.tup [.str q0.1])) = H4 at s1 z1
      refine ⟨le_line (show 1 ≤ 100000 by decide), fun p2 o2 h2 ho2 => ?_⟩
      obtain ⟨s2, z2⟩ := new_tz (xs := [.str "*"]) h2 ho2
      have z1 := z1.same s2
      have s2 := s1.trans s2
      generalize upd H4 p2 (.frz o2 (.tup [.str "*"])) = H5 at s2 z2 z1
      refine ⟨_, rfl, repX_tz z2 (by omega) fun p3 H6 s3 z3 => ?_⟩
      have z1 := z1.same s3
      have s3 := s2.trans s3
      refine catG_any z1 z3 (by rw [List.length_replicate]; show 1 + j ≤ _; omega) fun p4 H7 s4 z4 => ?_
      have s4 := s3.trans s4
      refine ⟨_, rfl, le_line (show 1 ≤ 100000 by decide), fun p5 o5 h5 ho5 => ?_⟩
      obtain ⟨s5, z5⟩ := new_tz (xs := [.str z]) h5 ho5
      have z4 := z4.same s5
      have s5 := s4.trans s5
      generalize upd H7 p5 (.frz o5 (.tup [.str z])) = H8 at s5 z5 z4
      refine catG_any z4 z5 (by rw [List.length_append, List.length_replicate]; show 1 + j + 1 ≤ _; omega) fun p6 H9 s6 z6 => ?_
      have s6 := s5.trans s6
      refine ⟨le_line (show 1 ≤ 100000 by decide), fun p7 o7 h7 ho7 => ?_⟩
      obtain ⟨s7, z7⟩ := new_tz (xs := [.str "*"]) h7 ho7
      have z6 := z6.same s7
      have s7 := s6.trans s7
      generalize upd H9 p7 (.frz o7 (.tup [.str "*"])) = H10 at s7 z7 z6
      refine ⟨_, rfl, t, _, _, _, rfl, rfl, SqT.of (s7 _ _ t6), atI_nat (j := 1) rfl, _, _, rfl, rfl, _, rfl, _, _, rfl, rfl, ?_⟩
      show rRepX _ (V.ref p7) (V.int (q0.2 - 1 - ((j : Nat) : Int))) H10 _
      rw [hgz]
      refine repX_tz z7 (by omega) fun p8 H11 s8 z8 => ?_
      have z6 := z6.same s8
      have s8 := s7.trans s8
      refine catG_any z6 z8 (by rw [List.length_append, List.length_append, List.length_replicate, List.length_replicate]; show 1 + j + 1 + g ≤ _; omega) fun p9 H12 s9 z9 => ?_
      have s9 := s8.trans s9
      have es : ([V.str q0.1] ++ List.replicate j (V.str "*") ++ [V.str z] ++ List.replicate g (V.str "*")) = sV ([q0.1] ++ List.replicate j ("*" : Str) ++ [z] ++ List.replicate g ("*" : Str)) := by
        unfold sV
        rw [List.map_append, List.map_append, List.map_append, List.map_replicate, List.map_replicate]
        rfl
      rw [es] at z9
      have cn : List.count ("*" : Str) ([q0.1] ++ List.replicate j ("*" : Str) ++ [z] ++ List.replicate g ("*" : Str)) = j + g := by
        rw [List.count_append, List.count_append, List.count_append, List.count_replicate_self, List.count_replicate_self, List.count_cons_of_ne (nm_nstar n0), List.count_cons_of_ne (nm_nstar nz)]
        show 0 + j + 0 + g = _
        omega
      have ln : ([q0.1] ++ List.replicate j ("*" : Str) ++ [z] ++ List.replicate g ("*" : Str)).length = j + g + 2 := by
        rw [List.length_append, List.length_append, List.length_append, List.length_replicate, List.length_replicate]
        show 1 + j + 1 + g = _
        omega
      have so : StumpOk rows ([q0.1] ++ List.replicate j ("*" : Str) ++ [z] ++ List.replicate g ("*" : Str)) := by
        refine ⟨?_, ?_, by rw [ln]; omega⟩
        · have q := ((Opn.nil (w := wR rows)).snoc q0.1)
          rw [hg, show 0 + (j + 1 + g) = g + 1 + j by omega] at q
          have q := Opn.reps w0 j q
          have q := Opn.snoc (n := g) q z
          rw [wz, Nat.add_zero, ← Nat.zero_add g] at q
          have q := Opn.reps w0 g q
          exact q.done
        · intro y hy
          rcases List.mem_append.mp hy with hy | hy
          · rcases List.mem_append.mp hy with hy | hy
            · rcases List.mem_append.mp hy with hy | hy
              · rw [List.mem_singleton.mp hy]
                exact .inr ⟨q0, m1, rfl⟩
              · exact .inl (List.eq_of_mem_replicate hy)
            · rw [List.mem_singleton.mp hy]
              exact .inr ⟨_, hz, rfl⟩
          · exact .inl (List.eq_of_mem_replicate hy)
      generalize [q0.1] ++ List.replicate j ("*" : Str) ++ [z] ++ List.replicate g ("*" : Str) = st at z9 cn ln so
      have k09 := k03.trans (Kp.same s9)
      have b9 := b3.same s9
      have t9 := s9 _ _ t6
      refine ⟨fun σ H' => σ = [some (.ref a), some (.ref r), some (.str z), some (.ref t), some (.int (j : Nat)), some (.ref p9)] ∧ Kp a H H' ∧ BagM H' a c ∧ Tz H' p9 (sV st), ?_, ?_⟩
      · refine ⟨_, rfl, t, _, _, _, rfl, rfl, SqT.of t9, atI_nat (j := 1) rfl, _, _, rfl, rfl, _, rfl, ?_⟩
        refine ite2 (fun e1 => ?_) (fun _ => ⟨rfl, k09, b9, z9⟩)
        refine ⟨_, rfl, a, c, 2, rfl, b9, by decide, by decide, fun H13 d k10 b10 d0 d1 => ?_⟩
        have z10 := tz_kp z9 k10 b9
        have k010 := k09.trans k10
        refine ⟨rfl, _, rfl, ite2 (fun _ => ?_) (fun _ => ⟨rfl, k010, b10, z10⟩)⟩
        have e1 := of_decide_eq_true e1
        refine ⟨_, rfl, le_line (show 1 ≤ 100000 by decide), fun pa oa ha hoa => ?_⟩
        obtain ⟨sa, za⟩ := new_tz (xs := [.int 0]) ha hoa
        have z10 := z10.same sa
        generalize upd H13 pa (.frz oa (.tup [.int 0])) = H14 at sa za z10
        refine ⟨le_line (show 2 ≤ 100000 by decide), fun pb ob hb hob => ?_⟩
        obtain ⟨sb, zb⟩ := new_tz (xs := [.ref p9, .ref pa]) hb hob
        refine k _ _ (st, [Ent.n 0]) (k010.trans (Kp.same (sa.trans sb))) (b10.same (sa.trans sb)) ⟨p9, pa, zb, z10.same sb, za.same sb, ⟨so, by rw [ln]; omega, by rw [ln]; omega, ⟨?_, ?_, ?_, ?_, ?_, ?_⟩⟩⟩
        · exact ((Opn.nil (w := eW rows)).snoc (Ent.n 0)).done
        · intro y hy
          cases List.mem_singleton.mp hy
        · intro i hi
          have : i = 0 := List.mem_singleton.mp hi
          rw [cn]
          omega
        · exact List.nodup_cons.mpr ⟨List.not_mem_nil, List.nodup_nil⟩
        · rw [cn, ln]
          show 0 + _ < _
          omega
        · show 1 ≤ 7
          decide
      · rintro σ H13 ⟨rfl, k010, b10, z10⟩
        refine ⟨_, rfl, _, rfl, le_line (show 1 ≤ 100000 by decide), fun pa oa ha hoa => ?_⟩
        obtain ⟨sa, za⟩ := new_tz (xs := [.str z]) ha hoa
        have z10 := z10.same sa
        generalize upd H13 pa (.frz oa (.tup [.str z])) = H14 at sa za z10
        refine ⟨le_line (show 2 ≤ 100000 by decide), fun pb ob hb hob => ?_⟩
        obtain ⟨sb, zb⟩ := new_tz (xs := [.ref p9, .ref pa]) hb hob
        refine k _ _ (st, [Ent.k z]) (k010.trans (Kp.same (sa.trans sb))) (b10.same (sa.trans sb)) ⟨p9, pa, zb, z10.same sb, za.same sb, ⟨so, by rw [ln]; omega, by rw [ln]; omega, ⟨?_, ?_, ?_, ?_, ?_, ?_⟩⟩⟩
        · have q := (Opn.nil (w := eW rows)).snoc (Ent.k z)
          rw [show eW rows (Ent.k z) = 0 from wz] at q
          exact q.done
        · intro y hy
          cases List.mem_singleton.mp hy
          exact ⟨_, hz, rfl⟩
        · intro i hi
          cases hi
        · exact List.nodup_nil
        · rw [cn, ln]
          show 1 + _ < _
          omega
        · show 1 ≤ 7
          decide
end
end Sh
end
section
set_option Elab.async false
set_option linter.all false
set_option maxRecDepth 100000
set_option maxHeartbeats 2000000
namespace Sh
open PySem PySem.Spec PyProof.Rows L2
open C8 (pss_cut tCut)
open Evl (ixN_nat)
def MdAt (rows : List Row) (H : Hp) (ps : List Addr) (prs : List (List Str × List Ent)) : Prop := ps.length = prs.length ∧ ∀ (i : Nat) (p : Addr) (q : List Str × List Ent), ps[i]? = some p → prs[i]? = some q → PrAt rows H p q
theorem MdAt.same {rows : List Row} {H H' : Hp} {ps : List Addr} {prs : List (List Str × List Ent)} (x : MdAt rows H ps prs) (s : Same H H') : MdAt rows H' ps prs := ⟨x.1, fun i p q a b => (x.2 i p q a b).same s⟩
theorem MdAt.kp {rows : List Row} {a c : Addr} {H H' : Hp} {ps : List Addr} {prs : List (List Str × List Ent)} (x : MdAt rows H ps prs) (k : Kp a H H') (b : BagM H a c) : MdAt rows H' ps prs := ⟨x.1, fun i p q u v => (x.2 i p q u v).kp k b⟩
theorem PrAt.lst {rows : List Row} {H : Hp} {p F : Addr} {q : List Str × List Ent} {ys : List V} {o : HO} (x : PrAt rows H p q) (hF : H F = some (.lst ys)) : PrAt rows (upd H F o) p q := by
  obtain ⟨t, u, a, b, c, d⟩ := x
  have z : ∀ {t : Addr} {xs : List V}, Tz H t xs → Tz (upd H F o) t xs := fun {t xs} h => by
    obtain ⟨o', q1, q2⟩ := h
    exact ⟨o', by rw [upd_ne (fun e => by rw [e, hF] at q1; cases q1)]; exact q1, q2⟩
  exact ⟨t, u, z a, z b, z c, d⟩
theorem MdAt.lst {rows : List Row} {H : Hp} {F : Addr} {ps : List Addr} {prs : List (List Str × List Ent)} {ys : List V} {o : HO} (x : MdAt rows H ps prs) (hF : H F = some (.lst ys)) : MdAt rows (upd H F o) ps prs := ⟨x.1, fun i p q u v => (x.2 i p q u v).lst hF⟩
theorem MdAt.snoc {rows : List Row} {H : Hp} {ps : List Addr} {prs : List (List Str × List Ent)} {p : Addr} {q : List Str × List Ent} (x : MdAt rows H ps prs) (h : PrAt rows H p q) : MdAt rows H (ps ++ [p]) (prs ++ [q]) := by
  refine ⟨by rw [List.length_append, List.length_append, x.1]; rfl, fun i p' q' a b => ?_⟩
  by_cases hi : i < ps.length
  · rw [List.getElem?_append_left hi] at a
    rw [List.getElem?_append_left (by rw [← x.1]; exact hi)] at b
    exact x.2 i p' q' a b
  · rw [List.getElem?_append_right (by omega)] at a
    rw [List.getElem?_append_right (by rw [← x.1]; omega)] at b
    rw [x.1] at a
    cases hj : i - prs.length with
    | zero =>
      rw [hj] at a b
      cases a
      cases b
      exact h
    | succ j =>
      rw [hj] at a
      simp at a
theorem nm_ok {z : Str} (h : IsNm z) : PyData.strOk z = true := by
  unfold PyData.strOk
  rw [← Array.all_toList, List.all_eq_true]
  intro c hc
  have := h.2.2 c hc
  exact decide_eq_true (by omega)
def eD : Ent → PyData
  | .k z => .str z
  | .n i => .int (i : Nat)
def prD (q : List Str × List Ent) : PyData := .tuple [.tuple (q.1.map PyData.str), .tuple (q.2.map eD)]
theorem dp_pr {K : PySem.W.Frag} {rows : List Row} {H : Hp} {p : Addr} {q : List Str × List Ent} (x : PrAt rows H p q) : Dp K H (.ref p) (prD q) := by
  obtain ⟨t, u, a, b, c, d⟩ := x
  refine .tup a.q.sq (.cons (.tup b.q.sq (dpa_map (fun z => .str z) _)) (.cons (.tup c.q.sq (dpa_map (fun z => ?_) _)) .nil))
  cases z with
  | k z => exact .str z
  | n i => exact .int _
theorem lay_all {ds : List PyData} (h : ∀ d ∈ ds, d.canLay0 = true ∧ d.depth = 0) : PyData.canLayAll0 ds = true ∧ PyData.depthAll ds = 0 := by
  induction ds with
  | nil => exact ⟨rfl, rfl⟩
  | cons d r ih =>
    obtain ⟨q1, q2⟩ := h d List.mem_cons_self
    obtain ⟨i1, i2⟩ := ih fun x hx => h x (List.mem_cons_of_mem _ hx)
    refine ⟨by simp [PyData.canLayAll0, q1, i1], ?_⟩
    show max (PyData.depth d) (PyData.depthAll r) = 0
    rw [q2, i2]
    rfl
theorem star_ok : PyData.strOk ("*" : Str) = true := by decide +kernel
theorem shp_prs {rows : List Row} {prs : List (List Str × List Ent)} (R : ROk 4 rows) (h : ∀ q ∈ prs, TrimOk rows q.1 q.2) : SeqAt.shaped (.list (prs.map prD)) = true := shp_of fun d hd => by
  obtain ⟨q, hq, rfl⟩ := List.mem_map.mp hd
  have t := h q hq
  have a := lay_all (ds := q.1.map PyData.str) fun d hd => by
    obtain ⟨z, hz, rfl⟩ := List.mem_map.mp hd
    refine ⟨?_, rfl⟩
    rcases t.st.k z hz with e | ⟨r, r1, r2⟩
    · rw [e]
      exact star_ok
    · rw [← r2]
      exact nm_ok (R.nm _ r1)
  have b := lay_all (ds := q.2.map eD) fun d hd => by
    obtain ⟨z, hz, rfl⟩ := List.mem_map.mp hd
    cases z with
    | k z =>
      obtain ⟨r, r1, r2⟩ := t.re.kn z hz
      exact ⟨by rw [← r2]; exact nm_ok (R.nm _ r1), rfl⟩
    | n i => exact ⟨rfl, rfl⟩
  constructor
  · simp [prD, PyData.canLay0, PyData.canLayAll0, a.1, b.1]
  · simp [prD, PyData.depth, PyData.depthAll, a.2, b.2]
theorem MdAt.ok {rows : List Row} {H : Hp} {ps : List Addr} {prs : List (List Str × List Ent)} (x : MdAt rows H ps prs) : ∀ q ∈ prs, TrimOk rows q.1 q.2 := fun q hq => by
  obtain ⟨i, hi, rfl⟩ := List.mem_iff_getElem.mp hq
  have hp : i < ps.length := by rw [x.1]; exact hi
  obtain ⟨t, u, _, _, _, d⟩ := x.2 i ps[i] prs[i] (List.getElem?_eq_getElem hp) (List.getElem?_eq_getElem hi)
  exact d
theorem dp_prs {K : PySem.W.Frag} {rows : List Row} {H : Hp} {M : Addr} {ps : List Addr} {prs : List (List Str × List Ent)} (h : H M = some (.lst (ps.map V.ref))) (x : MdAt rows H ps prs) : Dp K H (.ref M) (.list (prs.map prD)) :=
  .lst (SqL.of h) (dpa_of (by rw [List.length_map]; exact x.1) fun i v q hv hq => by
    obtain ⟨t, ht, rfl⟩ := get_map hv
    exact dp_pr (x.2 i t q ht hq))
theorem eig_of (e : Int) (h0 : 0 ≤ e) (h : e < 8) : ∃ y, ([V.int 3, V.int 2, V.int 1, V.int 2, V.int 0, V.int 1, V.int 3, V.int 2] : List V)[e.toNat]? = some (.int y) ∧ 0 ≤ y ∧ y ≤ 3 := by
  have hh : ∀ j, j < 8 → ∃ y, ([V.int 3, V.int 2, V.int 1, V.int 2, V.int 0, V.int 1, V.int 3, V.int 2] : List V)[j]? = some (.int y) ∧ 0 ≤ y ∧ y ≤ 3 := by
    intro j hj
    match j, hj with
    | 0, _ => exact ⟨3, rfl, by decide, by decide⟩
    | 1, _ => exact ⟨2, rfl, by decide, by decide⟩
    | 2, _ => exact ⟨1, rfl, by decide, by decide⟩
    | 3, _ => exact ⟨2, rfl, by decide, by decide⟩
    | 4, _ => exact ⟨0, rfl, by decide, by decide⟩
    | 5, _ => exact ⟨1, rfl, by decide, by decide⟩
    | 6, _ => exact ⟨3, rfl, by decide, by decide⟩
    | 7, _ => exact ⟨2, rfl, by decide, by decide⟩
    | n + 8, h => exact absurd h (by omega)
  exact hh e.toNat (by omega)
theorem count_lt {rows : List Row} {m : Int} (R : ROk m rows) {s : List Str} (h : StumpOk rows s) (h2 : 2 ≤ s.length) : s.count ("*" : Str) < s.length := by
  refine Nat.lt_of_le_of_ne List.count_le_length fun e => ?_
  have q := List.count_eq_length.mp e
  match s, h2 with
  | x :: y :: r, _ =>
    have e1 : ("*" : Str) = x := q x List.mem_cons_self
    have f := h.f
    rw [← e1] at f
    simp [Mth.forest, star_no R] at f
/-- all that stood stands, but what is at a and at M -/
def KpM (a M : Addr) (H H' : Hp) : Prop := ∀ b o, H b = some o → b ≠ a → b ≠ M → H' b = some o
theorem KpM.of {a M : Addr} {H H' : Hp} (x : Kp a H H') : KpM a M H H' := fun b o h n _ => x b o h n
theorem KpM.trans {a M : Addr} {H H1 H2 : Hp} (x : KpM a M H H1) (y : Kp a H1 H2) : KpM a M H H2 := fun b o h n m => y b o (x b o h n m) n
theorem KpM.upd {a M : Addr} {H H1 : Hp} {o : HO} (x : KpM a M H H1) : KpM a M H (L2.upd H1 M o) := fun b u h n m => by rw [upd_ne m]; exact x b u h n m
theorem KpM.tkM {a c M : Addr} {H H' : Hp} {ys : List V} (x : KpM a M H H') (b : BagM H a c) (m : H M = some (.lst ys)) : TK H H' := fun t xs q => by
  refine x _ _ q (fun e => ?_) (fun e => ?_)
  · obtain ⟨⟨ys, h⟩, _⟩ := b.lsts
    rw [e, h] at q
    cases q
  · rw [e, m] at q
    cases q
def leafP (q : Row) : Bool := decide (V.int q.2 = V.int 0)
def spMadeM : Sp := fun vs H Q _ => ∃ (a c r : Addr) (most : Nat) (rows : List Row), vs = [.ref a, .ref r, .int (most : Nat)] ∧ BagM H a c ∧ r ≠ a ∧ RowsAt H r rows ∧ ROk 4 rows ∧ most ≤ 7 ∧
  ∀ (H' : Hp) (M : Addr) (ps : List Addr) (prs : List (List Str × List Ent)), Kp a H H' → BagM H' a c → H M = none → M ≠ a → H' M = some (.lst (ps.map V.ref)) → MdAt rows H' ps prs → prs.length ≤ 4 → Q (.ref M) H'
abbrev s_law_made : Stmt := top 52
abbrev N_law_made : List Str := ["bag", "kinds", "most", "roots", "leaves", "tame", "zero", "made", "k", "stump", "pair"]
theorem sc_law_made : FnScope N_law_made ["bag", "kinds", "most"] (defScope s_law_made) := ⟨rfl, rfl, rfl, by decide +kernel, rfl, by decide +kernel, by decide +kernel⟩
section
variable {P : Program} {w : World} {K : PySem.W.Frag} {mg : Str → Option Value} {base : Heap} {C : Addr}
theorem ok_madeM (T : Bl mg) (c_law_pick : DefOk P w K mg base CX0 1 "_law_pick" spPick) (c_law_tame : DefOk P w K mg base CX0 2 "_law_tame" spTameM) (c_law_stump : DefOk P w K mg base CX0 2 "_law_stump" spStumpM) (c_law_result : DefOk P w K mg base CX0 2 "_law_result" spResultM) (D : Def0 K mg "_law_made" s_law_made) : DefOk P w K mg base CX0 3 "_law_made" spMadeM := by
  refine D.ok sc_law_made (fun vs H Q E h => ?_) (fun _ _ _ _ _ _ us hl => match us, hl with | [_, _, _], _ => rfl) (fun f cdv A outer s' H vs Q E hr h => ?_)
  · obtain ⟨a, c, r, most, rows, rfl, _⟩ := h
    rfl
  · obtain ⟨a, c, r, most, rows, rfl, hb, nra, ⟨ts, hR, hT⟩, R, hm7, k⟩ := h
    have R8 := R.up
    have R8l := R8.len
    refine ⟨_, (pss_cons (ps_setLc (i := 3) (own := [("pair", 10)]) (g := (gName 10)) rfl sc_law_made.nd rfl rfl (sw_true rfl rfl rfl (by decide +kernel)) (pi_list (pv 1)) (blkOk_by (N := N_law_made) (sc := defScope s_law_made) (by decide +kernel)) (fun _ _ _ _ _ => (pg_name (i := 10) sc_law_made.nd rfl (Or.inl rfl))) (fun _ _ _ _ _ => (pts_one (pt_chain op_lt op_lt pe_int (pe_ix (show IxR _ (rIxT K) from ix_tup) (pv 10) pe_int (fun _ _ => rfl)) (pv 2)))) (fun _ _ _ _ _ => (pv 10)))
      (pss_cons (ps_if (pt_cmpR (op_eqD hr.units) (pv 3) (pe_lst pa_nil) (nomark _))
        (pss_one (ps_ret (pe_lst pa_nil)))
        pss_nil)
      (pss_cons (ps_setLc (i := 4) (own := [("pair", 10)]) (g := (gName 10)) rfl sc_law_made.nd rfl rfl (sw_true rfl rfl rfl (by decide +kernel)) (pi_list (pv 1)) (blkOk_by (N := N_law_made) (sc := defScope s_law_made) (by decide +kernel)) (fun _ _ _ _ _ => (pg_name (i := 10) sc_law_made.nd rfl (Or.inl rfl))) (fun _ _ _ _ _ => (pts_one (pt_cmpR op_eq (pe_ix (show IxR _ (rIxT K) from ix_tup) (pv 10) pe_int (fun _ _ => rfl)) pe_int (nomark _)))) (fun _ _ _ _ _ => (pe_ix (show IxR _ (rIxT K) from ix_tup) (pv 10) pe_int (fun _ _ => rfl))))
      (pss_cons (ps_set (i := 5) sc_law_made.nd rfl (Or.inl rfl) (pe_cmpR op_eq (pe_d c_law_pick (hr.mono (by decide)) pass0 (pa_cons (pv 0) (pa_cons pe_int pa_nil))) pe_int (nomark _)))
      (pss_cons (ps_set (i := 6) sc_law_made.nd rfl (Or.inl rfl) (pe_ix ix_list (pv 4) (pe_d c_law_pick (hr.mono (by decide)) pass0 (pa_cons (pv 0) (pa_cons (pe_callB call_len_seq (by rfl) T.b_len boot_len (pa_cons (pv 4) pa_nil)) pa_nil))) (fun _ _ => rfl)))
      (pss_cons (ps_set (i := 7) sc_law_made.nd rfl (Or.inl rfl) (pe_lst pa_nil))
      (pss_cons (ps_for PassesOwn.never rfl (pi_range1 (by rfl) T.b_range (pa_cons (pe_ix ix_tup (pe_tupF (pa_cons pe_int (pa_cons pe_int (pa_cons pe_int (pa_cons pe_int (pa_cons pe_int (pa_cons pe_int (pa_cons pe_int (pa_cons pe_int pa_nil))))))))) (pe_d c_law_pick (hr.mono (by decide)) pass0 (pa_cons (pv 0) (pa_cons pe_int pa_nil))) (fun _ _ => rfl)) pa_nil)) (pg_name (i := 8) sc_law_made.nd rfl (Or.inl rfl))
        (pss_one (ps_if (pt_val (pv 5))
          (pss_one (ps_expr (pe_bm PySem.F.plainAttrs_list PySem.F.slot_list_append PySem.F.type_list_append mt_append (pv 7) (pa_cons (pe_d c_law_tame (hr.mono (by decide)) pass0 (pa_cons (pv 0) (pa_cons (pv 3) (pa_cons (pv 6) pa_nil)))) pa_nil))))
          (pss_cons (ps_set (i := 9) sc_law_made.nd rfl (Or.inl rfl) (pe_d c_law_stump (hr.mono (by decide)) pass0 (pa_cons (pv 0) (pa_cons (pv 1) (pa_cons (pv 2) pa_nil)))))
          (pss_one (ps_expr (pe_bm PySem.F.plainAttrs_list PySem.F.slot_list_append PySem.F.type_list_append mt_append (pv 7) (pa_cons (pe_tupF (pa_cons (pv 9) (pa_cons (pe_d c_law_result (hr.mono (by decide)) pass0 (pa_cons (pv 0) (pa_cons (pv 1) (pa_cons (pv 9) pa_nil)))) pa_nil))) pa_nil))))))))
      (pss_cut (ps_if (PW.pt (pw_and (pt_cmpR (op_neD hr.units) (pv 7) (pe_lst pa_nil) (nomark _)) (pw_and1 (pt_cmpR op_eq (pe_d c_law_pick (hr.mono (by decide)) pass0 (pa_cons (pv 0) (pa_cons pe_int pa_nil))) pe_int (nomark _)))))
        (pss_one (ps_expr (pe_bm PySem.F.plainAttrs_list PySem.F.slot_list_append PySem.F.type_list_append mt_append (pv 7) (pa_cons (pe_ix ix_list (pv 7) pe_int (fun _ _ => rfl)) pa_nil))))
        pss_nil)
      (pss_one (ps_ret (pv 7))))))))))), ?_⟩
    refine ⟨_, rfl, r, rfl, ⟨_, SqL.of hR⟩, fun D hD => ?_⟩
    have nD := hb.ne hD
    have nDr : r ≠ D := ne_of_none hR hD
    refine lc_list (xs := ts.map V.ref) (fun i H' => Same H H' ∧ ∃ us, H' D = some (.lst (us.map V.ref)) ∧ TupsAt H' us ((rows.take i).filter (rootP most)))
      ⟨(Same.refl H).upd_new hD, [], upd_same, rfl, fun i t q hi => by simp at hi⟩ (fun i H' _ ⟨q, _⟩ => SqL.of (q _ _ hR)) ?_ ?_
    · rintro i v H1 hv ⟨s1, us, d1, u1⟩
      obtain ⟨t, ht, rfl⟩ := get_map hv
      have hi : i < rows.length := by rw [← hT.1]; exact lt_of_get ht
      have hq := s1 _ _ (hT.2 i t rows[i] ht (List.getElem?_eq_getElem hi))
      have et := flt_snoc (p := rootP most) (List.getElem?_eq_getElem hi)
      have lu : us.length ≤ 8 := by
        rw [u1.1]
        have := List.length_filter_le (rootP most) (rows.take i)
        rw [List.length_take] at *
        omega
      have no : ¬ rootP most rows[i] = true → Same H H1 ∧ ∃ us, H1 D = some (.lst (us.map V.ref)) ∧ TupsAt H1 us ((rows.take (i + 1)).filter (rootP most)) := fun h => by
        refine ⟨s1, us, d1, ?_⟩
        rw [et, if_neg h, List.append_nil]
        exact u1
      refine ⟨rfl, _, rfl, t, _, _, _, rfl, rfl, SqT.of hq, atI_nat (j := 1) rfl, _, _, rfl, rfl, _, rfl, ?_⟩
      refine ite2 (fun h0 => ?_) (fun h0 => ⟨_, rfl, no fun q => h0 (decide_eq_true (of_decide_eq_true q).1)⟩)
      refine ⟨_, rfl, _, _, rfl, rfl, _, rfl, ?_⟩
      refine ite2 (fun h1 => ?_) (fun h1 => no fun q => h1 (decide_eq_true (of_decide_eq_true q).2))
      refine ⟨_, rfl, _, d1, lt_line (by rw [List.length_map]; omega), s1.upd_own hD, us ++ [t], by rw [upd_same, List.map_append]; rfl, ?_⟩
      rw [et, if_pos (show rootP most rows[i] = true from decide_eq_true ⟨of_decide_eq_true h0, of_decide_eq_true h1⟩)]
      have tk : TK H1 (upd H1 D (.lst (us.map V.ref ++ [V.ref t]))) := TK.lst d1
      exact (u1.keep tk).snoc (tk _ _ hq)
    · rintro H1 ⟨s1, us, d1, u1⟩
      have elen : (ts.map V.ref).length = rows.length := by rw [List.length_map]; exact hT.1
      rw [elen, List.take_length] at u1
      have hsub : (rows.filter (rootP most)).length ≤ rows.length := List.length_filter_le _ _
      have hin : ∀ q ∈ (rows.filter (rootP most)), q ∈ rows ∧ 0 < q.2 ∧ q.2 < ((most : Nat) : Int) := fun q hq => ⟨(List.mem_filter.mp hq).1, of_decide_eq_true (List.mem_filter.mp hq).2⟩
      generalize (rows.filter (rootP most)) = rts at u1 hsub hin
      refine ⟨_, rfl, le_line (show 0 ≤ 100000 by decide), fun l hl => ?_⟩
      have s2 : Same H1 (upd H1 l (.lst [])) := (Same.refl H1).upd_new hl
      have l2 : (upd H1 l (.lst [])) l = some (.lst []) := upd_same
      have d2 := s2 _ _ d1
      have u2 := u1.sameR s2
      have s02 := s1.trans s2
      generalize upd H1 l (.lst []) = H2 at s2 l2 d2 u2 s02
      refine ⟨_, _, dp_rows (SqL.of d2) u2, dp_nil l2, shp_rows (fun q hq => nm_ok (R.nm _ (hin q hq).1)), shp_nil, _, rfl, ?_⟩
      refine ite2 (fun _ => ?_) (fun h0 => ?_)
      · refine ⟨le_line (show 0 ≤ 100000 by decide), fun M hM => ?_⟩
        have s3 := s02.upd_new (o := .lst []) hM
        exact k _ M [] [] (Kp.same s3) (hb.same s3) (s02.free hM) ((hb.same s02).ne hM).1 upd_same ⟨rfl, fun i p q a => by simp at a⟩ (Nat.zero_le _)
      rw [eqvE] at h0
      have hpos : 0 < rts.length := by
        cases rts with
        | nil => exact absurd rfl h0
        | cons _ _ => exact Nat.succ_pos _
      have hroot : ∃ q ∈ rows, 0 < q.2 ∧ q.2 < ((most : Nat) : Int) := ⟨rts[0], hin _ (List.getElem_mem hpos)⟩
      have hR2 := s02 _ _ hR
      have b2 := hb.same s02
      refine ⟨_, rfl, r, rfl, ⟨_, SqL.of hR2⟩, fun D2 hD2 => ?_⟩
      have nD2 := b2.ne hD2
      refine lc_list (xs := ts.map V.ref) (fun i H' => Same H2 H' ∧ H' D2 = some (.lst (sV (((rows.take i).filter leafP).map (·.1)))))
        ⟨(Same.refl H2).upd_new hD2, upd_same⟩ (fun i H' _ ⟨q, _⟩ => SqL.of (q _ _ hR2)) ?_ ?_
      · rintro i v H3 hv ⟨s3, d3⟩
        obtain ⟨t, ht, rfl⟩ := get_map hv
        have hi : i < rows.length := by rw [← hT.1]; exact lt_of_get ht
        have hq := s3 _ _ (s02 _ _ (hT.2 i t rows[i] ht (List.getElem?_eq_getElem hi)))
        have et := flt_snoc (p := leafP) (List.getElem?_eq_getElem hi)
        refine ⟨rfl, _, rfl, t, _, _, _, rfl, rfl, SqT.of hq, atI_nat (j := 1) rfl, rfl, _, rfl, ?_⟩
        refine ite2 (fun h1 => ?_) (fun h1 => ?_)
        · refine ⟨_, rfl, t, _, _, _, rfl, rfl, SqT.of hq, atI_nat (j := 0) rfl, _, d3, ?_, s3.upd_own hD2, ?_⟩
          · rw [sV, List.length_map, List.length_map]
            refine lt_line (Nat.le_trans (List.length_filter_le _ _) ?_)
            rw [List.length_take]
            omega
          · rw [upd_same, et, if_pos (show leafP rows[i] = true from h1), sV, sV, List.map_append, List.map_append]
            rfl
        · refine ⟨s3, ?_⟩
          rw [et, if_neg (show ¬ leafP rows[i] = true from h1), List.append_nil]
          exact d3
      · rintro H3 ⟨s3, d3⟩
        rw [elen, List.take_length] at d3
        have hlv : ∀ z ∈ (rows.filter leafP).map (·.1), (z, 0) ∈ rows := fun z hz => by
          obtain ⟨q, q1, rfl⟩ := List.mem_map.mp hz
          have e0 : q.2 = 0 := int_eq0 (List.mem_filter.mp q1).2
          have := (List.mem_filter.mp q1).1
          rw [show q = (q.1, 0) from Prod.ext rfl e0] at this
          exact this
        have hlp : 0 < ((rows.filter leafP).map (·.1)).length := by
          obtain ⟨q, q1, q2⟩ := R.leaf
          rw [List.length_map]
          exact List.length_pos_of_mem (List.mem_filter.mpr ⟨q1, decide_eq_true (by rw [q2])⟩)
        have hll : ((rows.filter leafP).map (·.1)).length ≤ 8 := by
          rw [List.length_map]
          have := List.length_filter_le leafP rows
          omega
        generalize (rows.filter leafP).map (·.1) = lvs at d3 hlv hlp hll
        have s03 := s02.trans s3
        have b3 := hb.same s03
        have d13 := s3 _ _ d2
        have u3 := u2.sameR s3
        refine ⟨_, rfl, a, c, 3, rfl, b3, by decide, by decide, fun H4 e k4 b4 e0 e1 => ?_⟩
        refine ⟨rfl, ?_⟩
        generalize decide (V.int e = V.int 2) = tb
        have d4 := k4 _ _ d3 nD2.1
        have d14 := k4 _ _ d13 nD.1
        have u4 := u3.keep (k4.tkM b3)
        have k04 : Kp a H H4 := (Kp.same s03).trans k4
        have llv : (sV lvs).length = lvs.length := by rw [sV, List.length_map]
        refine ⟨_, rfl, _, rfl, _, rfl, D2, _, rfl, .inl (SqL.of d4), a, c, (lvs.length : Int), by rw [llv], b4, by omega, by omega, fun H5 j k5 b5 j0 j1 => ?_⟩
        have hj : j.toNat < lvs.length := by omega
        have d15 := k5 _ _ d14 nD.1
        have u5 := u4.keep (k5.tkM b4)
        have k05 := k04.trans k5
        refine ⟨D2, _, _, _, rfl, rfl, SqL.of (k5 _ _ d4 nD2.1), str_at (j := j.toNat) hj (by omega), ?_⟩
        have hz := hlv _ (List.getElem_mem hj)
        generalize lvs[j.toNat] = z at hz
        refine ⟨le_line (show 0 ≤ 100000 by decide), fun M hM => ?_⟩
        have s6 : Same H5 (upd H5 M (.lst [])) := (Same.refl H5).upd_new hM
        have m6 : (upd H5 M (.lst [])) M = some (.lst (([] : List Addr).map V.ref)) := upd_same
        have nM := b5.ne hM
        have hM0 : H M = none := k05.freeM hM nM.1
        have b6 := b5.same s6
        have d16 := s6 _ _ d15
        have u6 := u5.sameR s6
        have k06 := k05.trans (Kp.same s6)
        have nMD : D ≠ M := ne_of_none d15 hM
        generalize upd H5 M (.lst []) = H6 at s6 m6 b6 d16 u6 k06
        refine ⟨le_line (show 8 ≤ 100000 by decide), fun t ot ht hot => ?_⟩
        obtain ⟨s7, z7⟩ := new_tz (xs := [V.int 3, V.int 2, V.int 1, V.int 2, V.int 0, V.int 1, V.int 3, V.int 2]) ht hot
        generalize upd H6 t (.frz ot (.tup [V.int 3, V.int 2, V.int 1, V.int 2, V.int 0, V.int 1, V.int 3, V.int 2])) = H7 at s7 z7
        have b7 := b6.same s7
        refine ⟨_, rfl, a, c, 8, rfl, b7, by decide, by decide, fun H8 e k8 b8 e0 e1 => ?_⟩
        obtain ⟨y, hy, y0, y3⟩ := eig_of e e0 e1
        have z8 := tz_kp z7 k8 b7
        refine ⟨t, _, _, _, rfl, rfl, z8.q.sq, at_ofG (j := e.toNat) (by omega) hy, ?_⟩
        have k67 := k06.trans (Kp.same s7)
        have k08 := k67.trans k8
        have m8 := k8 _ _ (s7 _ _ m6) nM.1
        have rts8 : rts.length ≤ 8 := by omega
        refine ⟨_, rfl, by omega, by omega, for_range (n := y.toNat) (fun i σ H' => ∃ (x x2 : Option V) (ps : List Addr) (prs : List (List Str × List Ent)), σ = [some (.ref a), some (.ref r), some (.int (most : Nat)), some (.ref D), some (.ref D2), some (.bl tb), some (.str z), some (.ref M), x, x2, none] ∧
            Kp a H H' ∧ KpM a M H6 H' ∧ BagM H' a c ∧ H' M = some (.lst (ps.map V.ref)) ∧ MdAt rows H' ps prs ∧ prs.length = i)
          ⟨none, none, [], [], rfl, k08, KpM.of ((Kp.same s7).trans k8), b8, m8, ⟨rfl, fun i p q a => by simp at a⟩, rfl⟩ ?_ ?_⟩
        · rintro i σ H9 hi ⟨x, x2, ps, prs, rfl, k9, k69, b9, m9, p9, pl⟩
          have d19 := k69 _ _ d16 nD.1 nMD
          have u9 := u6.keep (k69.tkM b6 m6)
          have hR9 := k9 _ _ hR nra
          have hT9 : TupsAt H9 ts rows := hT.keep (k9.tkM hb)
          refine ⟨_, rfl, _, rfl, ite2 (fun _ => ?_) (fun _ => ?_)⟩
          · refine ⟨_, rfl, .inl ⟨rfl, _, SqL.of m9⟩, _, rfl, _, rfl, _, rfl, a, c, D, z, rows, rts, us, rfl, b9, nD.1, d19, u9, (fun q hq => ⟨(hin q hq).1, (hin q hq).2.1⟩), hpos, rts8, R, hz, fun H10 p q k10 b10 p10 => ?_⟩
            have m10 := k10 _ _ m9 nM.1
            have pp := p9.kp k10 b9
            refine ⟨M, _, _, rfl, rfl, m10, lt_line (by rw [List.length_map, p9.1]; omega), ?_⟩
            refine ⟨_, _, ps ++ [p], prs ++ [q], rfl, (k9.trans k10).upd_own hM0, (k69.trans k10).upd, b10.upd_ne nM, by rw [upd_same, List.map_append]; rfl, (pp.lst m10).snoc (p10.lst m10), ?_⟩
            rw [List.length_append, pl]
            rfl
          · refine ⟨_, rfl, _, rfl, _, rfl, a, c, r, most, rows, rfl, b9, nra, ⟨ts, hR9, hT9⟩, R, hm7, hroot, fun H10 st s k10 b10 z10 so sl s2 => ?_⟩
            have m10 := k10 _ _ m9 nM.1
            have p10 := p9.kp k10 b9
            have k010 := k9.trans k10
            refine ⟨_, rfl, .inl ⟨rfl, _, SqL.of m10⟩, _, rfl, _, rfl, _, rfl, _, rfl, a, c, r, st, rows, s, rfl, b10, nra, ⟨ts, k10 _ _ hR9 nra, hT9.keep (k10.tkM b9)⟩, R, z10, so, s2, by omega, count_lt R so s2, fun H11 u e k11 b11 z11 re => ?_⟩
            have m11 := k11 _ _ m10 nM.1
            have p11 := p10.kp k11 b10
            have z12 := tz_kp z10 k11 b10
            refine ⟨le_line (show 2 ≤ 100000 by decide), fun pb ob hb2 hob => ?_⟩
            obtain ⟨sb, zb⟩ := new_tz (xs := [.ref st, .ref u]) hb2 hob
            have m12 := sb _ _ m11
            have p12 := p11.same sb
            have b12 := b11.same sb
            have pr : MdAt rows (upd H11 pb (.frz ob (.tup [.ref st, .ref u]))) (ps ++ [pb]) (prs ++ [(s, e)]) := p12.snoc ⟨st, u, zb, z12.same sb, z11.same sb, so, s2, Nat.le_trans sl hm7, re⟩
            have k12 : Kp a H (upd H11 pb (.frz ob (.tup [.ref st, .ref u]))) := (k010.trans k11).trans (Kp.same sb)
            have k612 : KpM a M H6 (upd H11 pb (.frz ob (.tup [.ref st, .ref u]))) := ((k69.trans k10).trans k11).trans (Kp.same sb)
            generalize upd H11 pb (.frz ob (.tup [.ref st, .ref u])) = H12 at sb zb m12 p12 b12 pr k12 k612
            refine ⟨M, _, _, rfl, rfl, m12, lt_line (by rw [List.length_map, p9.1]; omega), ?_⟩
            refine ⟨_, _, ps ++ [pb], prs ++ [(s, e)], rfl, k12.upd_own hM0, k612.upd, b12.upd_ne nM, by rw [upd_same, List.map_append]; rfl, pr.lst m12, ?_⟩
            rw [List.length_append, pl]
            rfl
        · rintro σ H9 ⟨x, x2, ps, prs, rfl, k9, k69, b9, m9, p9, pl⟩
          refine ⟨fun σ H' => ∃ (ps : List Addr) (prs : List (List Str × List Ent)), σ = [some (.ref a), some (.ref r), some (.int (most : Nat)), some (.ref D), some (.ref D2), some (.bl tb), some (.str z), some (.ref M), x, x2, none] ∧ Kp a H H' ∧ BagM H' a c ∧ H' M = some (.lst (ps.map V.ref)) ∧ MdAt rows H' ps prs ∧ prs.length ≤ 4, ?_, ?_⟩
          · refine ⟨_, rfl, le_line (show 0 ≤ 100000 by decide), fun l hl => ?_⟩
            have s10 : Same H9 (upd H9 l (.lst [])) := (Same.refl H9).upd_new hl
            have l10 : (upd H9 l (.lst [])) l = some (.lst []) := upd_same
            have m10 := s10 _ _ m9
            have p10 := p9.same s10
            have b10 := b9.same s10
            have k10 := k9.trans (Kp.same s10)
            generalize upd H9 l (.lst []) = H10 at s10 l10 m10 p10 b10 k10
            refine ⟨_, _, dp_prs m10 p10, dp_nil l10, shp_prs R p10.ok, shp_nil, _, rfl, ?_⟩
            refine ite2 (fun h1 => ?_) (fun _ => ⟨ps, prs, rfl, k10, b10, m10, p10, by omega⟩)
            rw [eqvE] at h1
            refine ⟨_, rfl, a, c, 8, rfl, b10, by decide, by decide, fun H11 d k11 b11 d0 d1 => ?_⟩
            have m11 := k11 _ _ m10 nM.1
            have p11 := p10.kp k11 b10
            have k011 := k10.trans k11
            refine ⟨rfl, _, rfl, ite2 (fun _ => ?_) (fun _ => ⟨ps, prs, rfl, k011, b11, m11, p11, by omega⟩)⟩
            have hpp : 0 < prs.length := by
              cases prs with
              | nil => cases h1
              | cons _ _ => exact Nat.succ_pos _
            have hp0 : 0 < ps.length := by rw [p11.1]; exact hpp
            refine ⟨_, rfl, .inl ⟨rfl, _, SqL.of m11⟩, _, rfl, M, _, _, _, rfl, rfl, SqL.of m11, atI_nat (j := 0) (by rw [List.getElem?_map, List.getElem?_eq_getElem hp0]; rfl), M, _, _, rfl, rfl, m11, lt_line (by rw [List.length_map, p11.1]; omega), ?_⟩
            refine ⟨ps ++ [ps[0]], prs ++ [prs[0]], rfl, k011.upd_own hM0, b11.upd_ne nM, by rw [upd_same, List.map_append]; rfl, (p11.lst m11).snoc ((p11.2 0 _ _ (List.getElem?_eq_getElem hp0) (List.getElem?_eq_getElem hpp)).lst m11), ?_⟩
            rw [List.length_append]
            show prs.length + 1 ≤ 4
            omega
          · rintro σ H10 ⟨ps, prs, rfl, k10, b10, m10, p10, pl⟩
            exact ⟨_, rfl, k _ _ ps prs k10 b10 hM0 nM.1 m10 p10 pl⟩
end
end Sh
end
section
set_option Elab.async false
set_option linter.all false
set_option maxRecDepth 100000
set_option maxHeartbeats 2000000
namespace L2
open PySem PySem.Spec PyProof.Rows
/-- a bound of a slice that is None -/
theorem po_nonV {X : Cx} {e : Expr} {te : TE} (h : PE X e te) : PO X (some e) (fun σ H Q => te σ H fun x H1 => x = .non ∧ Q none H1) := by
  refine ⟨fun pins s σ H Q I hw => ?_⟩
  rw [evalPart_some]
  refine thn (h.run pins s σ H _ I hw) fun u s1 ⟨x, H1, I1, r1, q1⟩ => ?_
  obtain ⟨rfl, q⟩ := q1
  obtain rfl : u = Value.none := r1
  exact ⟨none, H1, I1, .none, q⟩
end L2
namespace Sh
open PySem PySem.Spec PyProof.Rows L2
open C8 (pss_cut tCut)
open Evl (ixN_nat)
def SeqV (K : PySem.W.Frag) (H : Hp) (e : Addr) (lv : List V) : Prop := ∀ H', Same H H' → SqL K H' e lv ∨ SqT K H' e lv
def spFaultM (K : PySem.W.Frag) (C : Addr) : Sp := fun vs H Q _ => ∃ (b t e : Addr) (rows : List Row) (l : List Ent) (lv : List V), vs = [.ref b, .ref t, .ref e] ∧ BedAt C H b rows ∧ ROk 8 rows ∧ Tq H t (l.map eV) ∧ l.length ≤ 6000 ∧ SeqV K H e lv ∧ lv.all flatV = true ∧
  (∀ x ∈ l, (inV (eV x) lv = true ∧ eW rows x = 0) ∨ (inV (eV x) lv = false ∧ ∃ z, x = .k z ∧ ∃ q ∈ rows, q.1 = z)) ∧ Mth.forest (eW rows) l 1 = true ∧ ∀ H', Same H H' → Q .non H'
def knP : Ent → Bool
  | .n _ => false
  | .k z => decide (z ≠ "*")
def spKnots (C : Addr) : Sp := fun vs H Q _ => ∃ (b t : Addr) (rows : List Row) (l : List Ent), vs = [.ref b, .ref t] ∧ BedAt C H b rows ∧ ROk 8 rows ∧ Tq H t (l.map eV) ∧ l.length ≤ 6000 ∧ (∀ z : Str, Ent.k z ∈ l → z = ("*" : Str) ∨ ∃ q ∈ rows, q.1 = z) ∧
  ∀ H', Same H H' → Q (.int ((l.countP knP : Nat))) H'
def spResF (C : Addr) : Sp := fun vs H Q _ => ∃ (b t : Addr) (rows : List Row) (l : List Ent) (h : Nat), vs = [.ref b, .int (h : Nat), .ref t] ∧ BedAt C H b rows ∧ ROk 8 rows ∧ Tz H t (l.map eV) ∧ l.length ≤ 7 ∧ h ≤ 7 ∧ Mth.forest (eW rows) l 1 = true ∧ (∀ z, .k z ∈ l → ∃ q ∈ rows, q.1 = z) ∧ (∀ i ∈ nums l, i < h) ∧ (nums l).Nodup ∧
  ∀ H', Same H H' → Q .non H'
abbrev s_knots_in : Stmt := top 38
abbrev N_knots_in : List Str := ["bed", "entries", "entry"]
theorem sc_knots_in : FnScope N_knots_in ["bed", "entries"] (defScope s_knots_in) := ⟨rfl, rfl, rfl, by decide +kernel, rfl, by decide +kernel, by decide +kernel⟩
abbrev s_result_fault : Stmt := top 37
abbrev N_result_fault : List Str := ["bed", "holes", "result", "fault", "place", "entry"]
theorem sc_result_fault : FnScope N_result_fault ["bed", "holes", "result"] (defScope s_result_fault) := ⟨rfl, rfl, rfl, by decide +kernel, rfl, by decide +kernel, by decide +kernel⟩
section
variable {P : Program} {w : World} {K : PySem.W.Frag} {mg : Str → Option Value} {base : Heap} {C : Addr}
theorem ok_fault_placeM (T : Bk mg) (B : BedT K C) (D : Def0 K mg "fault_place" s_fault_place) : DefOk P w K mg base CX0 1 "fault_place" (spFaultM K C) := by
  refine D.ok sc_fault_place (fun vs H Q E h => ?_) (fun _ _ _ _ _ _ us hl => match us, hl with | [_, _, _], _ => rfl) (fun f cdv A outer s H vs Q E hr h => ?_)
  · obtain ⟨b, t, e, rows, l, lv, rfl, _⟩ := h
    rfl
  · obtain ⟨b, t, lq, rows, l, lv, rfl, hB, R, ht, hsz, he, hf, hx, hfo, k⟩ := h
    have hu := hu_of hr
    refine ⟨_, (pss_cons (ps_set (i := 3) sc_fault_place.nd rfl (Or.inl rfl) pe_int)
      (pss_cons (ps_for PassesOwn.never rfl (pi_enumT (by rfl) T.b_enumerate (pa_cons (pv 1) pa_nil)) (pg_tup (by rfl) (pgs_cons (pg_name (i := 4) sc_fault_place.nd rfl (Or.inl rfl)) (pgs_cons (pg_name (i := 5) sc_fault_place.nd rfl (Or.inl rfl)) pgs_nil)))
        (pss_cons (ps_if (pt_cmpR op_eq (pv 3) pe_int (nomark _))
          (pss_one (ps_ret (pv 4)))
          pss_nil)
        (pss_one (ps_if (pt_cmpR op_in_seq (pv 5) (pv 2) (by rfl))
          (pss_one (ps_set (i := 3) sc_fault_place.nd rfl (Or.inl rfl) (pe_op op_sub (pv 3) pe_int)))
          (pss_one (ps_if (pt_cmp (pc_din hu (pv 5) (pe_fld (pv 0) rfl)))
            (pss_one (ps_set (i := 3) sc_fault_place.nd rfl (Or.inl rfl) (pe_op op_add (pe_op op_sub (pv 3) pe_int) (pe_dget hu (pe_fld (pv 0) rfl) (pv 5) (fun _ _ => rfl)))))
            (pss_one (ps_ret (pv 4)))))))))
      (pss_one (ps_ret (pe_ifExp (pt_cmpR op_eq (pv 3) pe_int (nomark _)) pe_non (pe_callB call_len_seq (by rfl) T.b_len boot_len (pa_cons (pv 1) pa_nil))))))), ?_⟩
    refine ⟨_, rfl, t, _, rfl, ht.sq, for_it (walk_enumT (xs := l.map eV)) (fun i σ H' => ∃ (x y : Option V) (n : Nat), σ = [some (.ref b), some (.ref t), some (.ref lq), some (.int (n : Nat)), x, y] ∧ Same H H' ∧ Mth.forest (eW rows) (l.drop i) n = true)
      ⟨none, none, 1, rfl, Same.refl H, hfo⟩ (fun i σ H' _ ⟨_, _, _, _, q, _⟩ => (ht.same q).sq) ?_ ?_⟩
    · rintro i v σ H1 H2 hi ⟨x, y, n, rfl, s1, hfo⟩ ⟨P1, v1, v2, rfl, hP1, rfl, e1, e2⟩
      have hil : i < l.length := by rw [List.length_map] at hi; exact hi
      cases e1
      have e2' : (l.map eV)[i]? = some v2 := e2
      rw [List.getElem?_map, List.getElem?_eq_getElem hil] at e2'
      cases e2'
      have s2 := s1.upd_new (o := .tup [.int ((i : Nat) : Int), eV l[i]]) hP1
      rw [List.drop_eq_getElem_cons hil] at hfo
      have hm : l[i] ∈ l := List.getElem_mem hil
      obtain ⟨m, rfl⟩ : ∃ m, n = m + 1 := by
        cases n with
        | zero => cases hfo
        | succ m => exact ⟨m, rfl⟩
      have hfo2 : Mth.forest (eW rows) (l.drop (i + 1)) (m + eW rows l[i]) = true := by
        have q : Mth.forest (eW rows) (l[i] :: l.drop (i + 1)) (m + 1) = true := hfo
        unfold Mth.forest at q
        rw [Nat.add_comm m]
        exact q
      obtain ⟨dx, r, kk, ww, rk, ts, h1, h2, h3, h4, h5, h6⟩ := hB.same s2
      refine ⟨P1, _, rfl, SqT.of upd_same, rfl, _, _, rfl, _, _, rfl, rfl, ?_⟩
      refine ⟨_, rfl, rfl, _, rfl, ifn (fun e => ?_) ?_⟩
      · have := int_eq0 e
        omega
      refine ⟨_, rfl, _, rfl, lq, _, rfl, he _ s2, ?_, hf, _, rfl, ?_⟩
      · cases l[i] <;> rfl
      rcases hx _ hm with ⟨q1, q2⟩ | ⟨q1, z, q2, q3⟩
      · refine ifp q1 ?_
        rw [q2] at hfo2
        refine ⟨_, rfl, _, _, rfl, rfl, some (.int ((i : Nat) : Int)), some (eV l[i]), m, ?_, s2, hfo2⟩
        rw [show ((m : Nat) : Int) = ((m + 1 : Nat) : Int) - 1 by omega]
        rfl
      · refine ifn (fun e => by rw [q1] at e; cases e) ?_
        generalize l[i] = en at *
        subst q2
        refine ⟨_, rfl, _, rfl, b, C, dx, _, _, rfl, h1, B.cl, B.nW, lk_widths _ _ _ _, ww, _, rfl, DGet.k (k := .inr z) h5, _, rfl, ?_⟩
        rw [val_wL R q3]
        refine ifp rfl ?_
        refine ⟨_, rfl, _, _, rfl, rfl, _, rfl, b, C, dx, _, _, rfl, h1, B.cl, B.nW, lk_widths _ _ _ _, _, rfl, ww, _, rfl, (by rw [← val_wL R q3]; exact DGet.k (k := .inr z) h5), _, _, rfl, rfl, ?_⟩
        refine ⟨some (.int ((i : Nat) : Int)), some (.str z), m + wR rows z, ?_, s2, hfo2⟩
        rw [show ((m + wR rows z : Nat) : Int) = ((m + 1 : Nat) : Int) - 1 + ((wR rows z : Nat) : Int) by omega]
        rfl
    · rintro σ H1 ⟨x, y, n, rfl, s1, hfo⟩
      rw [List.length_map, List.drop_length] at hfo
      cases n with
      | zero => exact ⟨_, rfl, rfl, _, rfl, ifp (by simp) (k _ s1)⟩
      | succ m => cases hfo
theorem ok_knots (T : Bk mg) (B : BedT K C) (D : Def0 K mg "knots_in" s_knots_in) : DefOk P w K mg base CX0 1 "knots_in" (spKnots C) := by
  refine D.ok sc_knots_in (fun vs H Q E h => ?_) (fun _ _ _ _ _ _ us hl => match us, hl with | [_, _], _ => rfl) (fun f cdv A outer s H vs Q E hr h => ?_)
  · obtain ⟨b, t, rows, l, rfl, _⟩ := h
    rfl
  · obtain ⟨b, t, rows, l, rfl, hB, R, ht, hsz, hk, k⟩ := h
    have hu := hu_of hr
    refine ⟨_, (pss_one (ps_ret (pe_callB call_len_seq (by rfl) T.b_len boot_len (pa_cons (pe_lc (own := [("entry", 2)]) (g := (gName 2)) rfl sc_knots_in.nd (pi_tup (pv 1)) (blkOk_by (N := N_knots_in) (sc := defScope s_knots_in) (by decide +kernel)) (fun _ _ _ _ _ => (pg_name (i := 2) sc_knots_in.nd rfl (Or.inl rfl))) (fun _ _ _ _ _ => (pts_one (pt_cmp (pc_din hu (pv 2) (show PE _ _ (tFld K _ _) from pe_fld (pv 0) rfl))))) (fun _ _ _ _ _ => (pv 2))) pa_nil)))), ?_⟩
    refine ⟨_, rfl, t, rfl, ⟨_, ht.sq⟩, fun D hD => lc_it (walk_tup (xs := l.map eV)) (fun i H' => Same H H' ∧ H' D = some (.lst (((l.take i).filter knP).map eV)))
      ⟨(Same.refl H).upd_new hD, upd_same⟩ (fun i H' _ ⟨q, _⟩ => (ht.same q).sq) ?_ ?_⟩
    · rintro i v H1 H2 hi ⟨s1, d1⟩ ⟨rfl, hv⟩
      obtain ⟨x, hx, rfl⟩ := get_map hv
      have et := flt_snoc (p := knP) hx
      obtain ⟨dx, r, kk, ww, rk, ts, h1, h2, h3, h4, h5, h6⟩ := hB.same s1
      have hil := lt_of_get hx
      cases x with
      | n j =>
        refine ⟨rfl, _, rfl, _, rfl, b, C, dx, _, _, rfl, h1, B.cl, B.nW, lk_widths _ _ _ _, ww, _, rfl, DGet.k (k := .inl (j : Nat)) h5, _, rfl, ?_⟩
        have e0 : valV (wL rows) (.inl ((j : Nat) : Int)) = none := by
          unfold valV
          rw [List.find?_eq_none.mpr (fun kv hk => by
            obtain ⟨q, _, rfl⟩ := List.mem_map.mp hk
            simp)]
          rfl
        rw [e0]
        refine ifn (by decide) ⟨s1, ?_⟩
        rw [et, if_neg (by show ¬ (false = true); decide), List.append_nil]
        exact d1
      | k z =>
        refine ⟨rfl, _, rfl, _, rfl, b, C, dx, _, _, rfl, h1, B.cl, B.nW, lk_widths _ _ _ _, ww, _, rfl, DGet.k (k := .inr z) h5, _, rfl, ?_⟩
        rcases hk z (mem_of_get hx) with e | q3
        · subst e
          have e0 : valV (wL rows) (.inr "*") = none := by
            rcases nm_case R "*" with ⟨_, _, q, _⟩ | ⟨q, _⟩
            · exact q
            · rw [nm_star R] at q
              omega
          rw [e0]
          refine ifn (by decide) ⟨s1, ?_⟩
          rw [et, if_neg (by show ¬ (decide (("*" : Str) ≠ "*") = true); decide), List.append_nil]
          exact d1
        · have zn : z ≠ "*" := by
            obtain ⟨q, q1, rfl⟩ := q3
            exact nm_nstar (R.nm _ q1)
          rw [val_wL R q3]
          refine ifp rfl ⟨_, rfl, _, d1, ?_, s1.upd_own hD, ?_⟩
          · rw [List.length_map]
            refine lt_line (Nat.le_trans (List.length_filter_le _ _) ?_)
            rw [List.length_take]
            omega
          · rw [upd_same, et, if_pos (show knP (.k z) = true from decide_eq_true zn), List.map_append]
            rfl
    · rintro H1 ⟨s1, d1⟩
      rw [List.length_map, List.take_length] at d1
      refine ⟨D, _, rfl, .inl (SqL.of d1), ?_⟩
      have q := k _ s1
      rw [List.countP_eq_length_filter] at q
      rw [List.length_map]
      exact q
theorem inV_nV (x : V) (fs : List Nat) : (∀ z, x = .str z → inV x (nV fs) = false) ∧ ∀ i : Nat, x = .int (i : Nat) → inV x (nV fs) = decide (i ∈ fs) := by
  constructor
  · rintro z rfl
    induction fs with
    | nil => rfl
    | cons j r ih =>
      have e : inV (.str z) (nV (j :: r)) = (eqV (.int (j : Nat)) (.str z) || inV (.str z) (nV r)) := rfl
      rw [e, ih]
      rfl
  · rintro i rfl
    have e : nV fs = (fs.map fun i => ((i : Nat) : Int)).map V.int := by
      unfold nV
      rw [List.map_map]
      rfl
    rw [e, mem_map_ints]
    refine decide_eq_decide.mpr ⟨fun h => ?_, fun h => List.mem_map.mpr ⟨i, h, rfl⟩⟩
    obtain ⟨j, hj, e⟩ := List.mem_map.mp h
    have : j = i := by omega
    rw [← this]
    exact hj
theorem flat_nV (fs : List Nat) : (nV fs).all flatV = true := by
  rw [List.all_eq_true]
  intro v hv
  obtain ⟨i, _, rfl⟩ := List.mem_map.mp hv
  rfl
theorem inV_ent {j : Nat} (es : List Ent) (h : inV (.int (j : Nat)) (es.map eV) = true) : j ∈ nums es := by
  induction es with
  | nil => cases h
  | cons x r ih =>
    cases x with
    | k z =>
      have e : inV (.int (j : Nat)) ((Ent.k z :: r).map eV) = (false || inV (.int (j : Nat)) (r.map eV)) := rfl
      rw [e, Bool.false_or] at h
      exact ih h
    | n i =>
      have e : inV (.int (j : Nat)) ((Ent.n i :: r).map eV) = (eqV (.int (i : Nat)) (.int (j : Nat)) || inV (.int (j : Nat)) (r.map eV)) := rfl
      have e2 : (eqV (.int (i : Nat)) (.int (j : Nat)) || false) = decide (((j : Nat) : Int) ∈ [((i : Nat) : Int)]) := mem_map_ints (ws := [((i : Nat) : Int)]) (n := ((j : Nat) : Int))
      rw [Bool.or_false] at e2
      rw [e, e2, Bool.or_eq_true] at h
      show j ∈ i :: nums r
      rcases h with h | h
      · have q := List.mem_singleton.mp (of_decide_eq_true h)
        have : j = i := by omega
        rw [this]
        exact List.mem_cons_self
      · exact List.mem_cons_of_mem _ (ih h)
theorem flat_ent (es : List Ent) : (es.map eV).all flatV = true := by
  rw [List.all_eq_true]
  intro v hv
  obtain ⟨i, _, rfl⟩ := List.mem_map.mp hv
  cases i <;> rfl
theorem ok_result_fault (T : Bk mg) (c_fault_place : DefOk P w K mg base CX0 1 "fault_place" (spFaultM K C)) (D : Def0 K mg "result_fault" s_result_fault) : DefOk P w K mg base CX0 2 "result_fault" (spResF C) := by
  refine D.ok sc_result_fault (fun vs H Q E h => ?_) (fun _ _ _ _ _ _ us hl => match us, hl with | [_, _, _], _ => rfl) (fun f cdv A outer s H vs Q E hr h => ?_)
  · obtain ⟨b, t, rows, l, h, rfl, _⟩ := h
    rfl
  · obtain ⟨b, t, rows, l, hh, rfl, hB, R, ht, hsz, h7, hf, hk, hn, nd, k⟩ := h
    refine ⟨_, (pss_cons (ps_set (i := 3) sc_result_fault.nd rfl (Or.inl rfl) (pe_d c_fault_place (hr.mono (by decide)) pass0 (pa_cons (pv 0) (pa_cons (pv 2) (pa_cons (pe_listRg rfl (by rfl) T.b_list (prg_1 (by rfl) T.b_range (pv 1))) pa_nil)))))
      (pss_cons (ps_for PassesOwn.never rfl (pi_enumT (by rfl) T.b_enumerate (pa_cons (pe_slice sl_tupG (pv 2) po_none (po_nonV (pv 3))) pa_nil)) (pg_tup (by rfl) (pgs_cons (pg_name (i := 4) sc_result_fault.nd rfl (Or.inl rfl)) (pgs_cons (pg_name (i := 5) sc_result_fault.nd rfl (Or.inl rfl)) pgs_nil)))
        (pss_one (ps_if (PW.pt (pw_and (pt_val (pe_callB call_isi (by rfl) T.b_isinstance (by decide +kernel) (pa_cons (pv 5) (pa_cons (pe_bltn (v := .ty "int") (by rfl) T.b_int boot_int rfl) pa_nil)))) (pw_and1 (pt_cmpR op_in_seq (pv 5) (pe_slice sl_tupG (pv 2) po_none (po_some (pv 4))) (by rfl)))))
          (pss_one (ps_ret (pv 4)))
          pss_nil)))
      (pss_one (ps_ret (pv 3))))), ?_⟩
    refine ⟨_, rfl, _, rfl, _, rfl, _, rfl, .of_le (by omega) (by omega) (by omega) (by omega), fun F hF => ?_⟩
    have e0 : rgV 0 ((hh : Nat) : Int) = nV (List.range hh) := by
      unfold rgV nV
      rw [show (((hh : Nat) : Int) - 0).toNat = hh by omega]
      exact List.map_congr_left fun i _ => by rw [Int.zero_add]
    rw [e0]
    have s1 : Same H (upd H F (.lst (nV (List.range hh)))) := (Same.refl H).upd_new hF
    have f1 : (upd H F (.lst (nV (List.range hh)))) F = some (.lst (nV (List.range hh))) := upd_same
    generalize upd H F (.lst (nV (List.range hh))) = H1 at s1 f1
    refine ⟨b, t, F, rows, l, nV (List.range hh), rfl, hB.same s1, R, (ht.same s1).q, by omega, fun H' s' => .inl (SqL.of (s' _ _ f1)), flat_nV _, fun x hx => ?_, hf, fun H2 s2 => ?_⟩
    · cases x with
      | k z => exact .inr ⟨(inV_nV _ _).1 z rfl, z, rfl, hk z hx⟩
      | n i =>
        refine .inl ⟨?_, rfl⟩
        have hi : i ∈ nums l := List.mem_filterMap.mpr ⟨_, hx, rfl⟩
        have q := (inV_nV (.int (i : Nat)) (List.range hh)).2 i rfl
        rw [decide_eq_true (List.mem_range.mpr (hn i hi))] at q
        exact q
    · have s02 := s1.trans s2
      have t2 := ht.same s02
      have e1 : HT.sIx (l.map eV).length 0 none = 0 ∧ HT.sIx (l.map eV).length (l.map eV).length none = (l.map eV).length := ⟨rfl, rfl⟩
      refine ⟨_, rfl, _, rfl, rfl, t, _, rfl, t2.q.sq, fun _ => ?_, fun e => absurd e1 e⟩
      have ll : (l.map eV).length = l.length := List.length_map ..
      refine ⟨t, _, rfl, t2.q.sq, for_it (walk_enumT (xs := l.map eV)) (fun i σ H' => ∃ (x y : Option V), σ = [some (.ref b), some (.int (hh : Nat)), some (.ref t), some .non, x, y] ∧ Same H H')
        ⟨none, none, rfl, s02⟩ (fun i σ H' _ ⟨_, _, _, q⟩ => (ht.same q).q.sq) ?_ ?_⟩
      · rintro i v σ H3 H4 hi ⟨x, y, rfl, s3⟩ ⟨P1, v1, v2, rfl, hP1, rfl, e1, e2⟩
        have hil : i < l.length := by rw [ll] at hi; exact hi
        cases e1
        have e2' : (l.map eV)[i]? = some v2 := e2
        rw [List.getElem?_map, List.getElem?_eq_getElem hil] at e2'
        cases e2'
        have s4 := s3.upd_new (o := .tup [.int ((i : Nat) : Int), eV l[i]]) hP1
        have t4 := ht.same s4
        refine ⟨P1, _, rfl, SqT.of upd_same, rfl, _, _, rfl, _, _, rfl, rfl, ?_⟩
        have hnum : ∀ j : Nat, l[i] = .n j → j ∉ nums (l.take i) := fun j e hj => by
          have q : nums l = nums (l.take i) ++ nums (l.drop i) := by
            unfold nums
            rw [← List.filterMap_append, List.take_append_drop]
          rw [q, List.drop_eq_getElem_cons hil, e] at nd
          have z := (List.nodup_append.mp nd).2.2 j hj j List.mem_cons_self
          exact z rfl
        have hgen : ∃ en, l[i] = en := ⟨_, rfl⟩
        obtain ⟨en, hen⟩ := hgen
        rw [hen] at s4 t4
        rw [hen]
        cases en with
        | k z =>
          refine ⟨_, rfl, _, _, _, _, false, rfl, .ty _, .base (.str _), rfl, _, rfl, ?_⟩
          exact ifn (by decide) ⟨_, _, rfl, s4⟩
        | n j =>
          refine ⟨_, rfl, _, _, _, _, true, rfl, .ty _, .base (.int _), rfl, _, rfl, ?_⟩
          refine ifp rfl ?_
          have n1 : ¬ (HT.sIx (l.map eV).length 0 none = 0 ∧ HT.sIx (l.map eV).length (l.map eV).length (some ((i : Nat) : Int)) = (l.map eV).length) := by
            rintro ⟨_, q⟩
            rw [HT.sIx_nat, ll] at q
            omega
          refine ⟨_, rfl, _, rfl, _, rfl, _, rfl, t, _, rfl, t4.q.sq, fun e => absurd e n1, fun _ p o hp ho => ?_⟩
          have ec : cutV (l.map eV) none (some ((i : Nat) : Int)) = (l.take i).map eV := by
            unfold cutV
            have z1 : HT.sIx (l.map eV).length 0 none = 0 := rfl
            have z2 : HT.sIx (l.map eV).length (l.map eV).length (some ((i : Nat) : Int)) = i := by
              rw [HT.sIx_nat, ll]
              omega
            rw [z1, z2, List.drop_zero, Nat.sub_zero, List.map_take]
          rw [ec]
          obtain ⟨s5, z5⟩ := new_tz (xs := (l.take i).map eV) hp ho
          refine ⟨p, _, rfl, .inr z5.q.sq, rfl, flat_ent _, _, rfl, ?_⟩
          refine ifn (fun e => hnum j hen (inV_ent _ e)) ⟨_, _, rfl, s4.trans s5⟩
      · rintro σ H3 ⟨x, y, rfl, s3⟩
        exact ⟨_, rfl, k _ s3⟩
end
end Sh
end
section
set_option Elab.async false
set_option linter.all false
set_option maxRecDepth 100000
set_option maxHeartbeats 2000000
namespace Sh
open PySem PySem.Spec PyProof.Rows L2
open C8 (pss_cut tCut)
open Evl (ixN_nat)
structure Bm (mg : Str → Option Value) : Prop extends Bk mg where
  c_MOST_ENTRIES : ∃ t, mg "MOST_ENTRIES" = some (.int 200 t)
  c_MOST_TRIMS : ∃ t, mg "MOST_TRIMS" = some (.int 8 t)
theorem forest_map {α β : Type} (f : α → β) (w : β → Nat) : ∀ (l : List α) (n : Nat), Mth.forest (fun x => w (f x)) l n = Mth.forest w (l.map f) n
  | [], 0 => rfl
  | [], _ + 1 => rfl
  | _ :: _, 0 => rfl
  | x :: r, n + 1 => by
    rw [List.map_cons]
    unfold Mth.forest
    exact forest_map f w r _
theorem kn_cnt : ∀ s : List Str, (s.map Ent.k).countP knP + s.count ("*" : Str) = s.length
  | [] => rfl
  | z :: r => by
    have ih := kn_cnt r
    by_cases h : z = "*"
    · rw [List.map_cons, List.countP_cons_of_neg (by rw [h]; decide), h, List.count_cons_self, List.length_cons]
      omega
    · rw [List.map_cons, List.countP_cons_of_pos (show knP (.k z) = true from decide_eq_true h), List.count_cons_of_ne h, List.length_cons]
      omega
theorem kn_eq {rows : List Row} {m : Int} (R : ROk m rows) : ∀ e : List Ent, (∀ z, .k z ∈ e → ∃ q ∈ rows, q.1 = z) → e.countP knP = knE e
  | [], _ => rfl
  | .n i :: r, h => by
    rw [List.countP_cons_of_neg (by show ¬ (false = true); decide), kn_eq R r fun z hz => h z (List.mem_cons_of_mem _ hz)]
    unfold knE
    rw [List.countP_cons_of_neg (by show ¬ (false = true); decide)]
  | .k z :: r, h => by
    have hz : z ≠ "*" := by
      obtain ⟨q, q1, rfl⟩ := h z List.mem_cons_self
      exact nm_nstar (R.nm _ q1)
    rw [List.countP_cons_of_pos (show knP (.k z) = true from decide_eq_true hz), kn_eq R r fun z hz => h z (List.mem_cons_of_mem _ hz)]
    unfold knE
    rw [List.countP_cons_of_pos (by rfl)]
theorem map_k (s : List Str) : (s.map Ent.k).map eV = sV s := by
  rw [List.map_map]
  rfl
theorem shp_tstr {l : List Str} (h : ∀ z ∈ l, PyData.strOk z = true) : SeqAt.shaped (.tuple (l.map PyData.str)) = true := by
  have a := lay_all (ds := l.map PyData.str) fun d hd => by
    obtain ⟨z, hz, rfl⟩ := List.mem_map.mp hd
    exact ⟨h z hz, rfl⟩
  have q : PyData.canLay0 (.tuple (l.map PyData.str)) = true := by rw [PyData.canLay0]; exact a.1
  have r : PyData.depth (.tuple (l.map PyData.str)) ≤ 64 := by rw [PyData.depth, a.2]; decide
  unfold SeqAt.shaped
  rw [q, decide_eq_true r]
  rfl
theorem eqv_two {s : List Str} {z : Str} (h : 2 ≤ s.length) : PyData.eqv (.tuple (s.map PyData.str)) (.tuple ([z].map PyData.str)) = false := by
  cases s with
  | nil => exact absurd h (by decide)
  | cons a r =>
    cases r with
    | nil => exact absurd h (by show ¬ 2 ≤ 1; decide)
    | cons b r =>
      show PyData.eqvAll (PyData.str a :: PyData.str b :: r.map PyData.str) [PyData.str z] = false
      rw [PyData.eqvAll, PyData.eqvAll, Bool.and_false]
def spChkT (C : Addr) : Sp := fun vs H Q _ => ∃ (b t u : Addr) (rows : List Row) (s : List Str) (e : List Ent), vs = [.ref b, .ref t, .ref u] ∧ BedAt C H b rows ∧ ROk 8 rows ∧ Tz H t (sV s) ∧ Tz H u (e.map eV) ∧ TrimOk rows s e ∧ ∀ H', Same H H' → Q .non H'
abbrev s_check_trim : Stmt := top 36
abbrev N_check_trim : List Str := ["bed", "stump", "result", "place"]
theorem sc_check_trim : FnScope N_check_trim ["bed", "stump", "result"] (defScope s_check_trim) := ⟨rfl, rfl, rfl, by decide +kernel, rfl, by decide +kernel, by decide +kernel⟩
section
variable {P : Program} {w : World} {K : PySem.W.Frag} {mg : Str → Option Value} {base : Heap} {C : Addr}
theorem ok_check_trim (T : Bm mg) (c_fault_place : DefOk P w K mg base CX0 1 "fault_place" (spFaultM K C)) (c_result_fault : DefOk P w K mg base CX0 2 "result_fault" (spResF C)) (c_knots_in : DefOk P w K mg base CX0 1 "knots_in" (spKnots C)) (D : Def0 K mg "check_trim" s_check_trim) : DefOk P w K mg base CX0 3 "check_trim" (spChkT C) := by
  refine D.ok sc_check_trim (fun vs H Q E h => ?_) (fun _ _ _ _ _ _ us hl => match us, hl with | [_, _, _], _ => rfl) (fun f cdv A outer s' H vs Q E hr h => ?_)
  · obtain ⟨b, t, u, rows, s, e, rfl, _⟩ := h
    rfl
  · obtain ⟨b, t, u, rows, s, e, rfl, hB, R, ht, hu', O, k⟩ := h
    refine ⟨_, (pss_cons (ps_if (PW.pt (pw_or (pt_cmpR op_gt (pe_callB call_len_seq (by rfl) T.b_len boot_len (pa_cons (pv 1) pa_nil)) (pe_cI (by rfl) T.c_MOST_ENTRIES) (nomark _)) (pw_or1 (pt_cmpR op_gt (pe_callB call_len_seq (by rfl) T.b_len boot_len (pa_cons (pv 2) pa_nil)) (pe_cI (by rfl) T.c_MOST_ENTRIES) (nomark _)))))
        (pss_one ps_never)
        pss_nil)
      (pss_cons (ps_set (i := 3) sc_check_trim.nd rfl (Or.inl rfl) (pe_d c_fault_place (hr.mono (by decide)) pass0 (pa_cons (pv 0) (pa_cons (pv 1) (pa_cons (pe_tupF (pa_cons (pe_cS (by rfl) T.c_HOLE) pa_nil)) pa_nil)))))
      (pss_cons (ps_if (pt_cmpR op_notN (pv 3) pe_non (nomark _))
        (pss_one ps_never)
        pss_nil)
      (pss_cons (ps_if (pt_cmpR (op_eqD hr.units) (pv 1) (pe_tupF (pa_cons (pe_cS (by rfl) T.c_HOLE) pa_nil)) (nomark _))
        (pss_one ps_never)
        pss_nil)
      (pss_cons (ps_set (i := 3) sc_check_trim.nd rfl (Or.inl rfl) (pe_d c_result_fault (hr.mono (by decide)) pass0 (pa_cons (pv 0) (pa_cons (pe_mG ty_Z PySem.F.plainAttrs_tuple PySem.F.slot_tuple_count PySem.F.type_tuple_count mt_tcount (pv 1) (pa_cons (pe_cS (by rfl) T.c_HOLE) pa_nil)) (pa_cons (pv 2) pa_nil)))))
      (pss_cons (ps_if (pt_cmpR op_notN (pv 3) pe_non (nomark _))
        (pss_one ps_never)
        pss_nil)
      (pss_one (ps_if (pt_cmpR op_ge (pe_d c_knots_in (hr.mono (by decide)) pass0 (pa_cons (pv 0) (pa_cons (pv 2) pa_nil))) (pe_d c_knots_in (hr.mono (by decide)) pass0 (pa_cons (pv 0) (pa_cons (pv 1) pa_nil))) (nomark _))
        (pss_one ps_never)
        pss_nil)))))))), ?_⟩
    have ls : (sV s).length = s.length := by rw [sV, List.length_map]
    have le : (e.map eV).length = e.length := List.length_map ..
    have l7 := O.l7
    have e7 := O.re.len
    have sok : ∀ z ∈ s, PyData.strOk z = true := fun z hz => by
      rcases O.st.k z hz with q | ⟨r, r1, r2⟩
      · rw [q]
        exact star_ok
      · rw [← r2]
        exact nm_ok (R.nm _ r1)
    refine ⟨_, rfl, t, _, rfl, .inr ht.q.sq, _, _, rfl, rfl, _, rfl, ifn (fun q => by rw [ls] at q; have := of_decide_eq_true q; omega) ?_⟩
    refine ⟨_, rfl, u, _, rfl, .inr hu'.q.sq, _, _, rfl, rfl, _, rfl, ifn (fun q => by rw [le] at q; have := of_decide_eq_true q; omega) ?_⟩
    refine ⟨_, rfl, _, rfl, le_line (show 1 ≤ 100000 by decide), fun p1 o1 h1 ho1 => ?_⟩
    obtain ⟨s1, z1⟩ := new_tz (xs := [.str "*"]) h1 ho1
    have t1 := ht.same s1
    generalize upd H p1 (.frz o1 (.tup [.str "*"])) = H1 at s1 z1 t1
    refine ⟨b, t, p1, rows, s.map Ent.k, [.str "*"], rfl, hB.same s1, R, by rw [map_k]; exact t1.q, by rw [List.length_map]; omega, fun H' s' => .inr (z1.same s').q.sq, rfl, fun x hx => ?_, ?_, fun H2 s2 => ?_⟩
    · obtain ⟨z, hz, rfl⟩ := List.mem_map.mp hx
      have ei : inV (.str z) ([("*" : Str)].map V.str) = decide (z ∈ [("*" : Str)]) := inV_str z ["*"]
      rcases O.st.k z hz with q | q
      · refine .inl ⟨?_, ?_⟩
        · show inV (.str z) ([("*" : Str)].map V.str) = true
          rw [ei]
          exact decide_eq_true (by rw [q]; exact List.mem_singleton.mpr rfl)
        · rw [q]
          exact star_no R
      · refine .inr ⟨?_, z, rfl, q⟩
        obtain ⟨r, r1, r2⟩ := q
        have nz : z ≠ "*" := by rw [← r2]; exact nm_nstar (R.nm _ r1)
        have : inV (.str z) ([("*" : Str)].map V.str) = false := by
          rw [ei]
          exact decide_eq_false fun q => nz (List.mem_singleton.mp q)
        exact this
    · rw [← forest_map]
      exact O.st.f
    have s02 := s1.trans s2
    have t2 := ht.same s02
    refine ⟨_, rfl, rfl, _, rfl, ifn (by decide) ?_⟩
    refine ⟨_, rfl, le_line (show 1 ≤ 100000 by decide), fun p2 o2 h2 ho2 => ?_⟩
    obtain ⟨s3, z3⟩ := new_tz (xs := [.str "*"]) h2 ho2
    have s03 := s02.trans s3
    have t3 := ht.same s03
    have u3 := hu'.same s03
    have B3 := hB.same s03
    generalize upd H2 p2 (.frz o2 (.tup [.str "*"])) = H3 at s3 z3 s03 t3 u3 B3
    refine ⟨.tuple (s.map PyData.str), .tuple ([("*" : Str)].map PyData.str), .tup t3.q.sq (dpa_map (fun z => .str z) _), .tup z3.q.sq (dpa_map (f := V.str) (fun z => .str z) [("*" : Str)]), shp_tstr sok, shp_tstr (fun z hz => by rw [List.mem_singleton.mp hz]; exact star_ok), _, rfl, ifn (fun q => ?_) ?_⟩
    · rw [eqv_two O.l2] at q
      cases q
    refine ⟨_, rfl, _, rfl, ⟨t, sV s, rfl, t3⟩, t, s, "*", rfl, rfl, t3.q.sq, _, rfl, b, u, rows, e, s.count ("*" : Str), rfl, B3, R, u3, e7, ?_, O.re.f, O.re.kn, O.re.nn, O.re.nd, fun H4 s4 => ?_⟩
    · have := List.count_le_length (a := ("*" : Str)) (l := s)
      omega
    have s04 := s03.trans s4
    refine ⟨_, rfl, rfl, _, rfl, ifn (by decide) ?_⟩
    refine ⟨_, rfl, _, rfl, b, u, rows, e, rfl, hB.same s04, R, (hu'.same s04).q, by omega, fun z hz => .inr (O.re.kn z hz), fun H5 s5 => ?_⟩
    have s05 := s04.trans s5
    refine ⟨_, rfl, _, rfl, b, t, rows, s.map Ent.k, rfl, hB.same s05, R, by rw [map_k]; exact (ht.same s05).q, by rw [List.length_map]; omega, fun z hz => ?_, fun H6 s6 => ?_⟩
    · obtain ⟨z', hz', e'⟩ := List.mem_map.mp hz
      cases e'
      exact O.st.k z hz'
    have q1 := kn_cnt s
    have q2 := kn_eq R e O.re.kn
    have q3 := O.re.sm
    refine ⟨_, _, rfl, rfl, _, rfl, ifn (fun q => ?_) (k _ (s05.trans s6))⟩
    have q := of_decide_eq_true q
    omega
end
end Sh
end
section
set_option Elab.async false
set_option linter.all false
set_option maxRecDepth 100000
set_option maxHeartbeats 2000000
namespace Sh
open PySem PySem.Spec PyProof.Rows L2
open C8 (pss_cut tCut)
open Evl (ixN_nat)
/-- holes become tags, from a number on -/
def tgs : Nat → List Str → List Ent
  | _, [] => []
  | n, z :: r => if z = ("*" : Str) then Ent.n n :: tgs (n + 1) r else Ent.k z :: tgs n r
theorem tgs_snoc (z : Str) : ∀ (l : List Str) (n : Nat), tgs n (l ++ [z]) = tgs n l ++ [if z = ("*" : Str) then Ent.n (n + l.count ("*" : Str)) else Ent.k z]
  | [], n => by
    by_cases h : z = ("*" : Str)
    · simp [tgs, h]
    · simp [tgs, h]
  | y :: r, n => by
    have e : (y :: r) ++ [z] = y :: (r ++ [z]) := rfl
    rw [e]
    by_cases h : y = ("*" : Str)
    · have c : (y :: r).count ("*" : Str) = r.count ("*" : Str) + 1 := by rw [h, List.count_cons_self]
      rw [tgs, if_pos h, tgs, if_pos h, tgs_snoc z r (n + 1), c, List.cons_append, show n + 1 + r.count ("*" : Str) = n + (r.count ("*" : Str) + 1) by omega]
    · have c : (y :: r).count ("*" : Str) = r.count ("*" : Str) := List.count_cons_of_ne h
      rw [tgs, if_neg h, tgs, if_neg h, tgs_snoc z r n, c, List.cons_append]
theorem tgs_len : ∀ (l : List Str) (n : Nat), (tgs n l).length = l.length
  | [], _ => rfl
  | y :: r, n => by
    unfold tgs
    split
    · rw [List.length_cons, List.length_cons, tgs_len r]
    · rw [List.length_cons, List.length_cons, tgs_len r]
def spTags (T : List Str → Hp → Addr → Prop) : Sp := fun vs H Q _ => ∃ (t : Addr) (l : List Str), vs = [.ref t] ∧ T l H t ∧ l.length ≤ 6000 ∧ ∀ H' p, Same H H' → Tq H' p ((tgs 0 l).map eV) → Q (.ref p) H'
theorem catA_q {K : PySem.W.Frag} {H : Hp} {a b : Addr} {xs ys : List V} {Q : VK} (ha : Tq H a xs) (hb : Tq H b ys) (hl : xs.length + ys.length ≤ 100000) (k : ∀ r H', Same H H' → Tq H' r (xs ++ ys) → Q (.ref r) H') : rCatA K (.ref a) (.ref b) H Q := catA_of ha hb hl k
abbrev s_law_tagged : Stmt := top 59
abbrev N_law_tagged : List Str := ["row", "built", "tag", "entry"]
theorem sc_law_tagged : FnScope N_law_tagged ["row"] (defScope s_law_tagged) := ⟨rfl, rfl, rfl, by decide +kernel, rfl, by decide +kernel, by decide +kernel⟩
abbrev s_with_tags : Stmt := top 21
abbrev N_with_tags : List Str := ["stump", "entries", "tag", "entry"]
theorem sc_with_tags : FnScope N_with_tags ["stump"] (defScope s_with_tags) := ⟨rfl, rfl, rfl, by decide +kernel, rfl, by decide +kernel, by decide +kernel⟩
section
variable {P : Program} {w : World} {K : PySem.W.Frag} {mg : Str → Option Value} {base : Heap} {C : Addr}
theorem ok_tagged (T : Bm mg) (D : Def0 K mg "_law_tagged" s_law_tagged) : DefOk P w K mg base CX0 1 "_law_tagged" (spTags fun l H t => Tq H t (sV l)) := by
  refine D.ok sc_law_tagged (fun vs H Q E h => ?_) (fun _ _ _ _ _ _ us hl => match us, hl with | [_], _ => rfl) (fun f cdv A outer s' H vs Q E hr h => ?_)
  · obtain ⟨t, l, rfl, _⟩ := h
    rfl
  · obtain ⟨t, l, rfl, ht, hl, k⟩ := h
    refine ⟨_, (pss_cons (ps_set (i := 1) sc_law_tagged.nd rfl (Or.inl rfl) (pe_tup pa_nil))
      (pss_cons (ps_set (i := 2) sc_law_tagged.nd rfl (Or.inl rfl) pe_int)
      (pss_cons (ps_for PassesOwn.never rfl (pi_tup (pv 0)) (pg_name (i := 3) sc_law_tagged.nd rfl (Or.inl rfl))
        (pss_one (ps_if (pt_cmpR op_eq (pv 3) pe_str (nomark _))
          (pss_cons (ps_set (i := 1) sc_law_tagged.nd rfl (Or.inl rfl) (pe_op op_catA (pv 1) (pe_tup (pa_cons (pv 2) pa_nil))))
          (pss_one (ps_set (i := 2) sc_law_tagged.nd rfl (Or.inl rfl) (pe_op op_add (pv 2) pe_int))))
          (pss_one (ps_set (i := 1) sc_law_tagged.nd rfl (Or.inl rfl) (pe_op op_catA (pv 1) (pe_tup (pa_cons (pv 3) pa_nil))))))))
      (pss_one (ps_ret (pv 1)))))), ?_⟩
    have ls : (sV l).length = l.length := by rw [sV, List.length_map]
    refine ⟨le_line (show 0 ≤ 100000 by decide), fun p0 h0 => ?_⟩
    have s0 := (Same.refl H).upd_new (o := .tup []) h0
    refine ⟨_, rfl, t, rfl, ⟨_, (ht.same s0).sq⟩, for_it (walk_tup (xs := sV l)) (fun i σ H' => ∃ (p : Addr) (x : Option V), σ = [some (.ref t), some (.ref p), some (.int ((l.take i).count ("*" : Str) : Nat)), x] ∧ Same H H' ∧ Tq H' p ((tgs 0 (l.take i)).map eV))
      ⟨p0, none, rfl, s0, .of upd_same⟩ (fun i σ H' _ ⟨_, _, _, q, _⟩ => (ht.same q).sq) ?_ ?_⟩
    · rintro i v σ H1 H2 hi ⟨p, x, rfl, s1, q1⟩ ⟨rfl, hv⟩
      have hil : i < l.length := by rw [ls] at hi; exact hi
      have hv2 : (l.map V.str)[i]? = some v := hv
      rw [List.getElem?_map, List.getElem?_eq_getElem hil] at hv2
      cases hv2
      have es : l.take (i + 1) = l.take i ++ [l[i]] := (take_snoc (List.getElem?_eq_getElem hil)).symm
      have lt : ((tgs 0 (l.take i)).map eV).length ≤ 6000 := by rw [List.length_map, tgs_len, List.length_take]; omega
      refine ⟨_, rfl, rfl, _, rfl, ite2 (fun e => ?_) (fun e => ?_)⟩
      · have ez : l[i] = ("*" : Str) := by
          have := of_decide_eq_true e
          injection this
        refine ⟨_, rfl, _, rfl, le_line (show 1 ≤ 100000 by decide), fun pt hpt => ?_⟩
        have s2 := s1.upd_new (o := .tup [.int ((l.take i).count ("*" : Str) : Nat)]) hpt
        have s12 := (Same.refl H2).upd_new (o := .tup [.int ((l.take i).count ("*" : Str) : Nat)]) hpt
        refine catA_q (q1.same s12) (.of upd_same) (by show _ + 1 ≤ _; omega) fun r H3 s3 z3 => ?_
        refine ⟨_, rfl, _, _, rfl, rfl, ?_⟩
        refine ⟨r, some (.str l[i]), ?_, s2.trans s3, ?_⟩
        · rw [es, List.count_append, ez, show List.count ("*" : Str) [("*" : Str)] = 1 by rfl]
          rfl
        · rw [es, tgs_snoc, if_pos ez, List.map_append, Nat.zero_add]
          exact z3
      · have ez : ¬ l[i] = ("*" : Str) := fun q => e (by rw [q]; exact decide_eq_true rfl)
        refine ⟨_, rfl, _, rfl, le_line (show 1 ≤ 100000 by decide), fun pt hpt => ?_⟩
        have s2 := s1.upd_new (o := .tup [.str l[i]]) hpt
        have s12 := (Same.refl H2).upd_new (o := .tup [.str l[i]]) hpt
        refine catA_q (q1.same s12) (.of upd_same) (by show _ + 1 ≤ _; omega) fun r H3 s3 z3 => ?_
        refine ⟨r, some (.str l[i]), ?_, s2.trans s3, ?_⟩
        · rw [es, List.count_append, List.count_cons_of_ne ez]
          rfl
        · rw [es, tgs_snoc, if_neg ez, List.map_append]
          exact z3
    · rintro σ H1 ⟨p, x, rfl, s1, q1⟩
      rw [ls, List.take_length] at q1
      exact ⟨_, rfl, k _ _ s1 q1⟩
theorem ok_with_tags (T : Bm mg) (D : Def0 K mg "with_tags" s_with_tags) : DefOk P w K mg base CX0 1 "with_tags" (spTags fun l H t => H t = some (.lst (sV l))) := by
  refine D.ok sc_with_tags (fun vs H Q E h => ?_) (fun _ _ _ _ _ _ us hl => match us, hl with | [_], _ => rfl) (fun f cdv A outer s' H vs Q E hr h => ?_)
  · obtain ⟨t, l, rfl, _⟩ := h
    rfl
  · obtain ⟨t, l, rfl, ht, hl, k⟩ := h
    refine ⟨_, (pss_cons (ps_set (i := 1) sc_with_tags.nd rfl (Or.inl rfl) (pe_lst pa_nil))
      (pss_cons (ps_set (i := 2) sc_with_tags.nd rfl (Or.inl rfl) pe_int)
      (pss_cons (ps_for PassesOwn.never rfl (pi_list (pv 0)) (pg_name (i := 3) sc_with_tags.nd rfl (Or.inl rfl))
        (pss_cons (ps_expr (pe_bm PySem.F.plainAttrs_list PySem.F.slot_list_append PySem.F.type_list_append mt_append (pv 1) (pa_cons (pe_ifExp (pt_cmpR op_eq (pv 3) (pe_cS (by rfl) T.c_HOLE) (nomark _)) (pv 2) (pv 3)) pa_nil)))
        (pss_one (ps_aug (i := 2) sc_with_tags.nd rfl (Or.inl rfl) (pe_ifExp (pt_cmpR op_eq (pv 3) (pe_cS (by rfl) T.c_HOLE) (nomark _)) pe_int pe_int) ip_add))))
      (pss_one (ps_ret (pe_callTy call_tuple_of (by rfl) T.b_tuple (by decide +kernel) (pa_cons (pv 1) pa_nil))))))), ?_⟩
    have ls : (sV l).length = l.length := by rw [sV, List.length_map]
    refine ⟨le_line (show 0 ≤ 100000 by decide), fun D hD => ?_⟩
    have s0 := (Same.refl H).upd_new (o := .lst []) hD
    refine ⟨_, rfl, t, rfl, ⟨_, SqL.of (s0 _ _ ht)⟩, for_it (walk_list (xs := sV l)) (fun i σ H' => ∃ (x : Option V), σ = [some (.ref t), some (.ref D), some (.int ((l.take i).count ("*" : Str) : Nat)), x] ∧ Same H H' ∧ H' D = some (.lst ((tgs 0 (l.take i)).map eV)))
      ⟨none, rfl, s0, upd_same⟩ (fun i σ H' _ ⟨_, _, q, _⟩ => SqL.of (q _ _ ht)) ?_ ?_⟩
    · rintro i v σ H1 H2 hi ⟨x, rfl, s1, q1⟩ ⟨rfl, hv⟩
      have hil : i < l.length := by rw [ls] at hi; exact hi
      have hv2 : (l.map V.str)[i]? = some v := hv
      rw [List.getElem?_map, List.getElem?_eq_getElem hil] at hv2
      cases hv2
      have es : l.take (i + 1) = l.take i ++ [l[i]] := (take_snoc (List.getElem?_eq_getElem hil)).symm
      have lt : ((tgs 0 (l.take i)).map eV).length ≤ 6000 := by rw [List.length_map, tgs_len, List.length_take]; omega
      refine ⟨_, rfl, .inl ⟨rfl, _, SqL.of q1⟩, _, rfl, rfl, _, rfl, ite2 (fun e => ?_) (fun e => ?_)⟩
      · have ez : l[i] = ("*" : Str) := by
          have := of_decide_eq_true e
          injection this
        refine ⟨_, rfl, D, _, _, rfl, rfl, q1, lt_line (by omega), ?_⟩
        refine ⟨_, rfl, _, rfl, rfl, _, rfl, ifp e ⟨_, _, rfl, rfl, ?_⟩⟩
        refine ⟨some (.str l[i]), ?_, s1.upd_own hD, ?_⟩
        · rw [es, List.count_append, ez, show List.count ("*" : Str) [("*" : Str)] = 1 by rfl]
          rfl
        · rw [upd_same, es, tgs_snoc, if_pos ez, List.map_append, Nat.zero_add]
          rfl
      · have ez : ¬ l[i] = ("*" : Str) := fun q => e (by rw [q]; exact decide_eq_true rfl)
        refine ⟨_, rfl, D, _, _, rfl, rfl, q1, lt_line (by omega), ?_⟩
        refine ⟨_, rfl, _, rfl, rfl, _, rfl, ifn e ⟨_, _, rfl, rfl, ?_⟩⟩
        refine ⟨some (.str l[i]), ?_, s1.upd_own hD, ?_⟩
        · rw [es, List.count_append, List.count_cons_of_ne ez, show List.count ("*" : Str) ([] : List Str) = 0 by rfl]
          show _ = [_, _, some (V.int (((l.take i).count ("*" : Str) + 0 : Nat) : Int)), _]
          rw [show (((l.take i).count ("*" : Str) + 0 : Nat) : Int) = (((l.take i).count ("*" : Str) : Nat) : Int) + 0 by omega]
          rfl
        · rw [upd_same, es, tgs_snoc, if_neg ez, List.map_append]
          rfl
    · rintro σ H1 ⟨x, rfl, s1, q1⟩
      rw [ls, List.take_length] at q1
      refine ⟨_, rfl, D, _, rfl, .inl ⟨SqL.of q1, fun p hp => ?_⟩⟩
      exact k _ _ (s1.upd_new hp) (.of upd_same)
end
end Sh
end
section
set_option Elab.async false
set_option linter.all false
set_option maxRecDepth 100000
set_option maxHeartbeats 2000000
namespace Sh
open PySem PySem.Spec PyProof.Rows L2
open C8 (pss_cut tCut)
open Evl (ixN_nat)
def sk (w : Str → Nat) (l : List Str) (p t m : Nat) : List Int := ((List.range m).map fun u => ((Mth.nxs w l p (t + u + 1) : Nat) : Int)).reverse
theorem sk_succ (w : Str → Nat) (l : List Str) (p t m : Nat) : sk w l p t (m + 1) = sk w l p (t + 1) m ++ [((Mth.nxs w l p (t + 1) : Nat) : Int)] := by
  unfold sk
  rw [List.range_succ_eq_map, List.map_cons, List.reverse_cons, List.map_map]
  have e : ((fun u => ((Mth.nxs w l p (t + u + 1) : Nat) : Int)) ∘ Nat.succ) = fun u => ((Mth.nxs w l p (t + 1 + u + 1) : Nat) : Int) := by
    funext u
    show ((Mth.nxs w l p (t + (u + 1) + 1) : Nat) : Int) = _
    rw [show t + (u + 1) + 1 = t + 1 + u + 1 by omega]
  rw [e]
theorem sk_in {w : Str → Nat} {l : List Str} {p : Nat} {k : Str} (hk : l[p]? = some k) (m : Nat) : sk w l (p + 1) (w k) m = sk w l p 1 m := by
  unfold sk
  have e : (fun u => ((Mth.nxs w l (p + 1) (w k + u + 1) : Nat) : Int)) = fun u => ((Mth.nxs w l p (1 + u + 1) : Nat) : Int) := by
    funext u
    rw [show 1 + u + 1 = (u + 1) + 1 by omega, Mth.nxs_in w (m := 0) hk (u + 1), show w k + u + 1 = w k + (u + 1) by omega]
  rw [e]
theorem forest_uq {α : Type} (w : α → Nat) : ∀ (l : List α) (a b : Nat), Mth.forest w l a = true → Mth.forest w l b = true → a = b
  | [], 0, 0, _, _ => rfl
  | [], _ + 1, _, h, _ => by cases h
  | [], _, _ + 1, _, h => by cases h
  | _ :: _, 0, _, h, _ => by cases h
  | _ :: _, _, 0, _, h => by cases h
  | x :: r, a + 1, b + 1, h, h' => by
    unfold Mth.forest at h h'
    have := forest_uq w r _ _ h h'
    omega
def spStops : Sp := fun vs H Q _ => ∃ (ar t : Addr) (rows : List Row) (l : List Str), vs = [.ref ar, .ref t] ∧ H ar = some (.dK (wL rows)) ∧ ROk 8 rows ∧ Tq H t (sV l) ∧ WfOk rows l ∧ ∀ H' p, Same H H' → H p = none → EndsAt H' p rows l → Q (.ref p) H'
abbrev s_law_stops : Stmt := top 54
abbrev N_law_stops : List Str := ["arity", "row", "stops", "waiting", "k", "at", "stop", "turn", "entry"]
theorem sc_law_stops : FnScope N_law_stops ["arity", "row"] (defScope s_law_stops) := ⟨rfl, rfl, rfl, by decide +kernel, rfl, by decide +kernel, by decide +kernel⟩
section
variable {P : Program} {w : World} {K : PySem.W.Frag} {mg : Str → Option Value} {base : Heap} {C : Addr}
theorem ok_stops (T : Bm mg) (D : Def0 K mg "_law_stops" s_law_stops) : DefOk P w K mg base CX0 1 "_law_stops" spStops := by
  refine D.ok sc_law_stops (fun vs H Q E h => ?_) (fun _ _ _ _ _ _ us hl => match us, hl with | [_, _], _ => rfl) (fun f cdv A outer s' H vs Q E hr h => ?_)
  · obtain ⟨ar, t, rows, l, rfl, _⟩ := h
    rfl
  · obtain ⟨ar, t, rows, l, rfl, ha, R, ht, O, k⟩ := h
    have hu := hu_of hr
    have hsz := O.sz
    refine ⟨_, (pss_cons (ps_setLc (i := 2) (own := [("entry", 8)]) (g := (gName 8)) (tt := tYes) rfl sc_law_stops.nd rfl rfl (sw_true rfl rfl rfl (by decide +kernel)) (pi_tup (pv 1)) (blkOk_by (N := N_law_stops) (sc := defScope s_law_stops) (by decide +kernel)) (fun _ _ _ _ _ => (pg_name (i := 8) sc_law_stops.nd rfl (Or.inl rfl))) (fun _ _ _ _ _ => pts_nil) (fun _ _ _ _ _ => pe_int))
      (pss_cons (ps_set (i := 3) sc_law_stops.nd rfl (Or.inl rfl) (pe_lst pa_nil))
      (pss_cons (ps_for PassesOwn.never rfl (pi_range1 (by rfl) T.b_range (pa_cons (pe_callB call_len_seq (by rfl) T.b_len boot_len (pa_cons (pv 1) pa_nil)) pa_nil)) (pg_name (i := 4) sc_law_stops.nd rfl (Or.inl rfl))
        (pss_cons (ps_set (i := 5) sc_law_stops.nd rfl (Or.inl rfl) (pe_op op_sub (pe_op op_sub (pe_callB call_len_seq (by rfl) T.b_len boot_len (pa_cons (pv 1) pa_nil)) pe_int) (pv 4)))
        (pss_cons (ps_set (i := 6) sc_law_stops.nd rfl (Or.inl rfl) (pe_op op_add (pv 5) pe_int))
        (pss_cons (ps_for PassesOwn.never rfl (pi_range1 (by rfl) T.b_range (pa_cons (pe_dget2 hu (pv 0) (pe_ix ix_tup (pv 1) (pv 5) (fun _ _ => rfl)) pe_int ⟨rfl, rfl, rfl, rfl⟩) pa_nil)) (pg_name (i := 7) sc_law_stops.nd rfl (Or.inl rfl))
          (pss_one (ps_set (i := 6) sc_law_stops.nd rfl (Or.inl rfl) (pe_bm0 PySem.F.plainAttrs_list PySem.F.slot_list_pop PySem.F.type_list_pop mt_pop (pv 3)))))
        (pss_cons (ps_asg (pv 6) (pg_sub (pv 2) (pv 5) set_list))
        (pss_one (ps_expr (pe_bm PySem.F.plainAttrs_list PySem.F.slot_list_append PySem.F.type_list_append mt_append (pv 3) (pa_cons (pv 6) pa_nil)))))))))
      (pss_one (ps_ret (pv 2)))))), ?_⟩
    have ls : (sV l).length = l.length := by rw [sV, List.length_map]
    refine ⟨_, rfl, t, rfl, ⟨_, ht.sq⟩, fun D hD => lc_it (walk_tup (xs := sV l)) (fun i H' => Same H H' ∧ H' D = some (.lst ((List.replicate i (0 : Int)).map V.int))) ⟨(Same.refl H).upd_new hD, upd_same⟩ (fun i H' _ ⟨q, _⟩ => (ht.same q).sq) ?_ ?_⟩
    · rintro i v H1 H2 hi ⟨q1, q2⟩ ⟨rfl, hv⟩
      refine ⟨rfl, _, q2, ?_, q1.upd_own hD, ?_⟩
      · rw [List.length_map, List.length_replicate]
        rw [ls] at hi
        exact lt_line (by omega)
      · rw [upd_same, List.replicate_succ', List.map_append]
        rfl
    · rintro H1 ⟨q1, q2⟩
      rw [ls] at q2
      refine ⟨le_line (show 0 ≤ 100000 by decide), fun F hF => ?_⟩
      have s2 := q1.upd_new (o := .lst []) hF
      have hF0 : H F = none := q1.free hF
      have nDF : D ≠ F := ne_of_none q2 hF
      have f2 : (upd H1 F (.lst [])) F = some (.lst ((sk (wR rows) l l.length 0 0).map V.int)) := upd_same
      have d2 : (upd H1 F (.lst [])) D = some (.lst ((List.replicate l.length (0 : Int)).map V.int)) := by rw [upd_ne nDF]; exact q2
      generalize upd H1 F (.lst []) = H2 at s2 f2 d2
      refine ⟨_, rfl, t, _, rfl, .inr ((ht.same s2).sq), _, rfl, by omega, by omega, for_range (n := (((sV l).length : Nat) : Int).toNat) (fun i σ H' => ∃ (x y z u : Option V) (es : List Int) (m : Nat), σ = [some (.ref ar), some (.ref t), some (.ref D), some (.ref F), x, y, z, u, none] ∧ Same H H' ∧ H' D = some (.lst (es.map V.int)) ∧ H' F = some (.lst ((sk (wR rows) l (l.length - i) 0 m).map V.int)) ∧ Mth.Fst (wR rows) l (l.length - i) m ∧
          es.length = l.length ∧ ∀ j, l.length - i ≤ j → j < l.length → es[j]? = some ((Mth.nxs (wR rows) l j 1 : Nat) : Int))
        ⟨none, none, none, none, _, 0, rfl, s2, d2, f2, ⟨Nat.le_refl _, by rw [Nat.sub_zero, List.drop_length]; rfl⟩, List.length_replicate, fun j h1 h2 => absurd h1 (by omega)⟩ ?_ ?_⟩
      · rintro i σ H3 hi ⟨x, y, z, u, es, m, rfl, s3, d3, f3, F3, el, eh⟩
        have hil : i < l.length := by rw [ls, Int.toNat_natCast] at hi; exact hi
        obtain ⟨p, hp⟩ : ∃ p, l.length - i = p + 1 := ⟨l.length - i - 1, by omega⟩
        have hp2 : l.length - (i + 1) = p := by omega
        rw [hp] at f3 F3 eh
        rw [hp2]
        have hpl : p < l.length := by omega
        have hk : l[p]? = some l[p] := List.getElem?_eq_getElem hpl
        have hw3 := wR_le R (l[p])
        obtain ⟨n, Fp, em⟩ : ∃ n, Mth.Fst (wR rows) l p (n + 1) ∧ m = wR rows l[p] + n := by
          obtain ⟨m1, G⟩ := Mth.Fst.all (wR rows) O.f p (Nat.le_of_lt hpl)
          obtain ⟨n, rfl⟩ := G.pos _ hpl
          have G2 := G.in _ hk
          exact ⟨n, G, forest_uq (wR rows) _ _ _ F3.2 G2.2⟩
        have fl0 : ∀ q t m, (sk (wR rows) l q t m).length = m := fun q t m => by rw [sk, List.length_reverse, List.length_map, List.length_range]
        have n2 : n ≤ 2001 := by
          have := Mth.forest_le (wR rows) _ _ Fp.2
          have h2 := List.length_drop (i := p) (l := l)
          omega
        refine ⟨_, rfl, t, _, rfl, .inr (ht.same s3).sq, _, _, rfl, rfl, _, rfl, _, _, rfl, rfl, ?_⟩
        have eat : (((sV l).length : Nat) : Int) - 1 - (0 + ((i : Nat) : Int)) = ((p : Nat) : Int) := by rw [ls]; omega
        refine ⟨_, rfl, _, _, rfl, rfl, ?_⟩
        refine ⟨_, rfl, ar, rfl, .inl ⟨_, .inl (s3 _ _ ha)⟩, _, rfl, _, rfl, t, _, _, _, rfl, rfl, (ht.same s3).sq, str_at hpl eat, _, DGet.k (k := .inr l[p]) (s3 _ _ ha), ?_⟩
        rw [get_wL R]
        refine ⟨_, rfl, (show -(2 ^ 62) ≤ ((wR rows l[p] : Nat) : Int) by omega), (show ((wR rows l[p] : Nat) : Int) < 2 ^ 62 by omega), ?_⟩
        rw [Int.toNat_natCast]
        refine for_range (fun i2 σ H' => ∃ (z : Option V), σ = [some (.ref ar), some (.ref t), some (.ref D), some (.ref F), some (.int (0 + (i : Nat))), some (.int ((((sV l).length : Nat) : Int) - 1 - (0 + (i : Nat)))), some (.int ((Mth.nxs (wR rows) l (p + 1) i2 : Nat) : Int)), z, none] ∧ Same H H' ∧ H' D = some (.lst (es.map V.int)) ∧ H' F = some (.lst ((sk (wR rows) l (p + 1) i2 (wR rows l[p] - i2 + n)).map V.int)))
          ⟨u, ?_, s3, d3, by rw [Nat.sub_zero, ← em]; exact f3⟩ ?_ ?_
        · rw [Mth.nxs_zero _ hpl, show ((p + 1 : Nat) : Int) = (((sV l).length : Nat) : Int) - 1 - (0 + ((i : Nat) : Int)) + 1 by rw [eat]; omega]
          rfl
        · rintro i2 σ H4 hi2 ⟨z2, rfl, s4, d4, f4⟩
          rw [show wR rows l[p] - i2 + n = (wR rows l[p] - (i2 + 1) + n) + 1 by omega, sk_succ, List.map_append] at f4
          refine ⟨_, rfl, .inl ⟨rfl, _, SqL.of f4⟩, F, _, V.int ((Mth.nxs (wR rows) l (p + 1) (i2 + 1) : Nat) : Int), rfl, rfl, f4, ?_, ?_⟩
          · rw [List.length_append, show (List.map V.int [((Mth.nxs (wR rows) l (p + 1) (i2 + 1) : Nat) : Int)]).length = 1 from rfl, Nat.add_sub_cancel, List.getElem?_append_right (Nat.le_refl _), Nat.sub_self]
            rfl
          · refine ⟨some (.int (0 + (i2 : Nat))), ?_, s4.upd_own hF0, by rw [upd_ne nDF]; exact d4, ?_⟩
            · rfl
            · rw [upd_same]
              show some (HO.lst ((_ ++ [_]).dropLast)) = _
              rw [List.dropLast_concat]
        · rintro σ H4 ⟨z2, rfl, s4, d4, f4⟩
          rw [Mth.end_last _ hk]
          rw [Nat.sub_self, Nat.zero_add, sk_in hk] at f4
          refine ⟨_, rfl, _, rfl, _, rfl, D, _, _, p, rfl, rfl, d4, ixz (by rw [List.length_map, el]; exact hpl) eat, ?_⟩
          have f5 : (upd H4 D (.lst ((es.map V.int).set p (.int ((Mth.nxs (wR rows) l p 1 : Nat) : Int))))) F = some (.lst ((sk (wR rows) l p 1 n).map V.int)) := by rw [upd_ne (Ne.symm nDF)]; exact f4
          refine ⟨_, rfl, .inl ⟨rfl, _, SqL.of f5⟩, _, rfl, F, _, _, rfl, rfl, f5, lt_line (by rw [List.length_map, fl0]; omega), ?_⟩
          refine ⟨_, _, _, _, es.set p ((Mth.nxs (wR rows) l p 1 : Nat) : Int), n + 1, rfl, (s4.upd_own hD).upd_own hF0, by rw [upd_ne nDF, upd_same, List.map_set], ?_, Fp, by rw [List.length_set]; exact el, fun j h1 h2 => ?_⟩
          · rw [upd_same, sk_succ, List.map_append]
            rfl
          by_cases e : j = p
          · subst e
            rw [List.getElem?_set_self (by omega)]
          · rw [List.getElem?_set_ne (Ne.symm e)]
            exact eh j (by omega) h2
      · rintro σ H3 ⟨x, y, z, u, es, m, rfl, s3, d3, f3, F3, el, eh⟩
        refine ⟨_, rfl, ?_⟩
        refine k _ _ s3 hD ?_
        unfold EndsAt
        rw [← Mth.ends_of_get (wR rows) el (fun j hj => eh j (by rw [ls, Int.toNat_natCast]; omega) hj)]
        exact d3
end
end Sh
end
section
set_option Elab.async false
set_option linter.all false
set_option maxRecDepth 100000
set_option maxHeartbeats 2000000
namespace Sh
open PySem PySem.Spec PyProof.Rows L2
open C8 (pss_cut tCut)
open Evl (ixN_nat)
def UnT (H : Hp) (v : V) (o : Option (List Str)) : Prop := match o with
  | none => v = .non
  | some u => ∃ q, v = .ref q ∧ Tq H q (sV u)
def spUnionM : Sp := fun vs H Q _ => ∃ (ar s t : Addr) (rows : List Row) (l m : List Str), vs = [.ref ar, .ref s, .ref t] ∧ H ar = some (.dK (wL rows)) ∧ ROk 8 rows ∧ Tq H s (sV l) ∧ WfOk rows l ∧ Tq H t (sV m) ∧ WfOk rows m ∧
  ∀ H' v o, Same H H' → Un (wR rows) l m o → UnT H' v o → Q v H'
abbrev s_law_union : Stmt := top 60
abbrev N_law_union : List Str := ["arity", "one", "two", "ones", "twos", "row", "a", "b", "k"]
theorem sc_law_union : FnScope N_law_union ["arity", "one", "two"] (defScope s_law_union) := ⟨rfl, rfl, rfl, by decide +kernel, rfl, by decide +kernel, by decide +kernel⟩
section
variable {P : Program} {w : World} {K : PySem.W.Frag} {mg : Str → Option Value} {base : Heap} {C : Addr}
theorem ok_unionM (T : Bm mg) (c_law_stops : DefOk P w K mg base CX0 1 "_law_stops" spStops) (D : Def0 K mg "_law_union" s_law_union) : DefOk P w K mg base CX0 2 "_law_union" spUnionM := by
  refine D.ok sc_law_union (fun vs H Q E h => ?_) (fun _ _ _ _ _ _ us hl => match us, hl with | [_, _, _], _ => rfl) (fun f cdv A outer s' H vs Q E hr h => ?_)
  · obtain ⟨ar, s, t, rows, l, m, rfl, _⟩ := h
    rfl
  · obtain ⟨ar, s, t, rows, l, m, rfl, ha, R, hs, O, ht, O2, k⟩ := h
    have hsz := O.sz
    have hsz2 := O2.sz
    have w0 : wR rows "*" = 0 := w_star R
    refine ⟨_, (pss_cons (ps_set (i := 3) sc_law_union.nd rfl (Or.inl rfl) (pe_d c_law_stops (hr.mono (by decide)) pass0 (pa_cons (pv 0) (pa_cons (pv 1) pa_nil))))
      (pss_cons (ps_set (i := 4) sc_law_union.nd rfl (Or.inl rfl) (pe_d c_law_stops (hr.mono (by decide)) pass0 (pa_cons (pv 0) (pa_cons (pv 2) pa_nil))))
      (pss_cons (ps_set (i := 5) sc_law_union.nd rfl (Or.inl rfl) (pe_tup pa_nil))
      (pss_cons (ps_set (i := 6) sc_law_union.nd rfl (Or.inl rfl) pe_int)
      (pss_cons (ps_set (i := 7) sc_law_union.nd rfl (Or.inl rfl) pe_int)
      (pss_cons (ps_for PassesOwn.never rfl (pi_range1 (by rfl) T.b_range (pa_cons (pe_op op_add (pe_callB call_len_seq (by rfl) T.b_len boot_len (pa_cons (pv 1) pa_nil)) (pe_callB call_len_seq (by rfl) T.b_len boot_len (pa_cons (pv 2) pa_nil))) pa_nil)) (pg_name (i := 8) sc_law_union.nd rfl (Or.inl rfl))
        (pss_cons (ps_if (pt_cmpR op_eq (pv 6) (pe_callB call_len_seq (by rfl) T.b_len boot_len (pa_cons (pv 1) pa_nil)) (nomark _))
          (pss_one ps_break)
          pss_nil)
        (pss_one (ps_if (pt_cmpR op_eq (pe_ix ix_tup (pv 1) (pv 6) (fun _ _ => rfl)) pe_str (nomark _))
          (pss_cons (ps_set (i := 5) sc_law_union.nd rfl (Or.inl rfl) (pe_op op_catA (pv 5) (pe_slice sl_tupA (pv 2) (po_some (pv 7)) (po_some (pe_ix ix_list (pv 4) (pv 7) (fun _ _ => rfl))))))
          (pss_cons (ps_set (i := 7) sc_law_union.nd rfl (Or.inl rfl) (pe_ix ix_list (pv 4) (pv 7) (fun _ _ => rfl)))
          (pss_one (ps_set (i := 6) sc_law_union.nd rfl (Or.inl rfl) (pe_op op_add (pv 6) pe_int)))))
          (pss_one (ps_if (pt_cmpR op_eq (pe_ix ix_tup (pv 2) (pv 7) (fun _ _ => rfl)) pe_str (nomark _))
            (pss_cons (ps_set (i := 5) sc_law_union.nd rfl (Or.inl rfl) (pe_op op_catA (pv 5) (pe_slice sl_tupA (pv 1) (po_some (pv 6)) (po_some (pe_ix ix_list (pv 3) (pv 6) (fun _ _ => rfl))))))
            (pss_cons (ps_set (i := 6) sc_law_union.nd rfl (Or.inl rfl) (pe_ix ix_list (pv 3) (pv 6) (fun _ _ => rfl)))
            (pss_one (ps_set (i := 7) sc_law_union.nd rfl (Or.inl rfl) (pe_op op_add (pv 7) pe_int)))))
            (pss_one (ps_if (pt_cmpR op_ne (pe_ix ix_tup (pv 1) (pv 6) (fun _ _ => rfl)) (pe_ix ix_tup (pv 2) (pv 7) (fun _ _ => rfl)) (nomark _))
              (pss_one (ps_ret pe_non))
              (pss_cons (ps_set (i := 5) sc_law_union.nd rfl (Or.inl rfl) (pe_op op_catA (pv 5) (pe_tup (pa_cons (pe_ix ix_tup (pv 1) (pv 6) (fun _ _ => rfl)) pa_nil))))
              (pss_cons (ps_set (i := 6) sc_law_union.nd rfl (Or.inl rfl) (pe_op op_add (pv 6) pe_int))
              (pss_one (ps_set (i := 7) sc_law_union.nd rfl (Or.inl rfl) (pe_op op_add (pv 7) pe_int)))))))))))))
      (pss_one (ps_ret (pv 5))))))))), ?_⟩
    have ll : (sV l).length = l.length := by rw [sV, List.length_map]
    have lm : (sV m).length = m.length := by rw [sV, List.length_map]
    have mpos : 0 < m.length := List.length_pos_iff.mpr (Mth.forest_pos _ O2.f)
    refine ⟨_, rfl, _, rfl, ar, s, rows, l, rfl, ha, R, hs, O, fun H1 d s1 _ hd => ?_⟩
    refine ⟨_, rfl, _, rfl, ar, t, rows, m, rfl, s1 _ _ ha, R, ht.same s1, O2, fun H2 e s2 _ he => ?_⟩
    have hd := s2 _ _ hd
    have s02 := s1.trans s2
    refine ⟨le_line (show 0 ≤ 100000 by decide), fun p0 h0 => ?_⟩
    have s3 := s02.upd_new (o := .tup []) h0
    have s23 := (Same.refl H2).upd_new (o := .tup []) h0
    have z3 : Tq (upd H2 p0 (.tup [])) p0 (sV []) := .of upd_same
    have hd := s23 _ _ hd
    have he := s23 _ _ he
    generalize upd H2 p0 (.tup []) = H3 at s3 z3 hd he
    have fin : ∀ (H' : Hp) (r : Addr) (q : Nat) (u : List Str), Same H H' → Tq H' r (sV u) → (∀ o, Un (wR rows) (l.drop l.length) (m.drop q) o → Un (wR rows) l m (o.map fun x => u ++ x)) → Mth.Fst (wR rows) m q 0 → Q (.ref r) H' := fun H' r q u s' z' hU F => by
      have e1 : m.drop q = [] := by
        have q2 := F.2
        cases hq : m.drop q with
        | nil => rfl
        | cons x y =>
          rw [hq] at q2
          cases q2
      have h0 := hU (some []) (by rw [e1]; exact .nil _)
      refine k _ _ _ s' h0 ⟨r, rfl, ?_⟩
      show Tq H' r (sV (u ++ []))
      rw [List.append_nil]
      exact z'
    refine ⟨_, rfl, s, _, rfl, .inr (hs.same s3).sq, _, rfl, t, _, rfl, .inr (ht.same s3).sq, _, _, rfl, rfl, _, rfl, by omega, by omega, ?_⟩
    refine for_range (fun i σ H' => ∃ (z : Option V) (r : Addr) (p q n : Nat) (u : List Str), σ = [some (.ref ar), some (.ref s), some (.ref t), some (.ref d), some (.ref e), some (.ref r), some (.int (p : Nat)), some (.int (q : Nat)), z] ∧ Same H H' ∧ Same H3 H' ∧ Tq H' r (sV u) ∧ u.length ≤ p + q ∧ i ≤ p ∧ p ≤ l.length ∧ q ≤ m.length ∧
        (∀ o, Un (wR rows) (l.drop p) (m.drop q) o → Un (wR rows) l m (o.map fun x => u ++ x)) ∧ Mth.Fst (wR rows) l p n ∧ Mth.Fst (wR rows) m q n) ?_ ?_ ?_
    · refine ⟨none, p0, 0, 0, 1, [], rfl, s3, Same.refl _, z3, Nat.zero_le _, Nat.zero_le _, Nat.zero_le _, Nat.zero_le _, fun o h => ?_, ⟨Nat.zero_le _, by rw [List.drop_zero]; exact O.f⟩, ⟨Nat.zero_le _, by rw [List.drop_zero]; exact O2.f⟩⟩
      rw [List.drop_zero, List.drop_zero] at h
      have e : (o.map fun x => ([] : List Str) ++ x) = o := by
        cases o <;> rfl
      rw [e]
      exact h
    · rintro i σ H4 hi ⟨z, r, p, q, n, u, rfl, s4, s34, z4, hul, hip, hpl, hql, hU, F1, F2⟩
      refine ⟨_, rfl, _, rfl, s, _, rfl, .inr (hs.same s4).sq, rfl, _, rfl, ite2 (fun e0 => ?_) (fun e0 => ?_)⟩
      · have ep : p = l.length := by
          have := int_eq0 e0
          rw [ll] at this
          omega
        have n0 : n = 0 := by
          cases n with
          | zero => rfl
          | succ n => have := F1.lt; omega
        subst ep
        subst n0
        exact ⟨_, rfl, fin _ _ _ u s4 z4 hU F2⟩
      have hpm : p < l.length := by
        refine Nat.lt_of_le_of_ne hpl fun q => e0 ?_
        rw [q, ll]
        exact decide_eq_true rfl
      obtain ⟨n', rfl⟩ := F1.pos _ hpm
      have hlt : q < m.length := F2.lt
      have G1 := F1.in _ (List.getElem?_eq_getElem hpm)
      have G2 := F2.in _ (List.getElem?_eq_getElem hlt)
      have S1 : Mth.Fst (wR rows) l (Mth.nxs (wR rows) l p 1) n' := Mth.Fst.skip (wR rows) (a := 1) (b := n') (by rw [Nat.add_comm]; exact F1)
      have S2 : Mth.Fst (wR rows) m (Mth.nxs (wR rows) m q 1) n' := Mth.Fst.skip (wR rows) (a := 1) (b := n') (by rw [Nat.add_comm]; exact F2)
      have dl : l.drop p = l[p] :: l.drop (p + 1) := List.drop_eq_getElem_cons hpm
      have dm : m.drop q = m[q] :: m.drop (q + 1) := List.drop_eq_getElem_cons hlt
      have k1 : p < Mth.nxs (wR rows) l p 1 := Mth.nxs_gt (wR rows) 0 hpm
      have k2 : q < Mth.nxs (wR rows) m q 1 := Mth.nxs_gt (wR rows) 0 hlt
      have k3 := Mth.nxs_le (wR rows) l p 1
      have k4 := Mth.nxs_le (wR rows) m q 1
      have lu : (sV u).length ≤ 4000 := by rw [sV, List.length_map]; omega
      have one : ∀ (xs : List Str) (i : Nat) (h : i < xs.length), xs[i] = ("*" : Str) → Mth.cut (wR rows) xs i = [("*" : Str)] ∧ Mth.nxs (wR rows) xs i 1 = i + 1 := fun xs i h e => by
        have q1 : Mth.nxs (wR rows) xs i 1 = i + 1 := by
          have := Mth.nxs_in (wR rows) (m := 0) (List.getElem?_eq_getElem h) 0
          rw [Nat.zero_add] at this
          rw [this, e, w0, Nat.zero_add, Mth.nxs_zero _ h]
        refine ⟨?_, q1⟩
        unfold Mth.cut
        rw [q1, Nat.add_sub_cancel_left, List.drop_eq_getElem_cons h, e]
        rfl
      have nextU : ∀ (p2 q2 : Nat) (c : List Str), (∀ o, Un (wR rows) (l.drop p2) (m.drop q2) o → Un (wR rows) (l.drop p) (m.drop q) (o.map fun x => c ++ x)) → ∀ o, Un (wR rows) (l.drop p2) (m.drop q2) o → Un (wR rows) l m (o.map fun x => (u ++ c) ++ x) := fun p2 q2 c hUn o h => by
        have := hU _ (hUn o h)
        rw [Option.map_map] at this
        have e : ((fun x => u ++ x) ∘ fun x => c ++ x) = fun x => u ++ c ++ x := by funext x; simp
        rw [e] at this
        exact this
      refine ⟨_, rfl, _, rfl, s, _, _, _, rfl, rfl, (hs.same s4).sq, str_at hpm rfl, rfl, _, rfl, ?_⟩
      by_cases c : l[p] = ("*" : Str)
      · refine ifp (decide_eq_true (congrArg V.str c)) ?_
        refine ⟨_, rfl, _, rfl, _, rfl, _, rfl, _, rfl, _, rfl, e, _, _, _, rfl, rfl, SqL.of (s34 _ _ he), int_at (Mth.ends_get (wR rows) hlt) rfl, _, rfl, ?_⟩
        refine slA_of (ht.same s4) (by rw [lm]; exact k4) (Nat.le_of_lt k2) (fun c9 H5 s5 hc => ?_)
        have ec : ((sV m).drop q).take (Mth.nxs (wR rows) m q 1 - q) = sV (Mth.cut (wR rows) m q) := by
          unfold sV Mth.cut
          rw [List.map_take, List.map_drop]
        rw [ec] at hc
        have lc : (Mth.cut (wR rows) m q).length = Mth.nxs (wR rows) m q 1 - q := by
          unfold Mth.cut
          rw [List.length_take, List.length_drop]
          omega
        refine catA_q (z4.same s5) hc (by rw [sV, sV, List.length_map, List.length_map, lc]; omega) fun r6 H6 s6 z6 => ?_
        have s46 := s5.trans s6
        refine ⟨_, rfl, _, rfl, e, _, _, _, rfl, rfl, SqL.of ((s34.trans s46) _ _ he), int_at (Mth.ends_get (wR rows) hlt) rfl, _, rfl, _, _, rfl, rfl, ?_⟩
        have ez : sV u ++ sV (Mth.cut (wR rows) m q) = sV (u ++ Mth.cut (wR rows) m q) := (List.map_append ..).symm
        rw [ez] at z6
        refine ⟨some (.int (0 + (i : Nat))), r6, p + 1, Mth.nxs (wR rows) m q 1, n', u ++ Mth.cut (wR rows) m q, rfl, s4.trans s46, s34.trans s46, z6, by rw [List.length_append, lc]; omega, by omega, hpm, k4, nextU _ _ _ fun o h => ?_, ?_, S2⟩
        · rw [dl, c]
          by_cases c2 : m[q] = ("*" : Str)
          · obtain ⟨h1, h2⟩ := one m q hlt c2
            rw [h1, dm, c2]
            rw [h2] at h
            exact .same _ _ _ _ h
          · rw [drop_cut hlt]
            exact .left _ _ _ _ (Mth.cut_forest (wR rows) O2.f hlt) (by rw [cut_head hlt]; exact fun x => c2 (Option.some.inj x)) h
        · rw [c, w0, Nat.zero_add] at G1
          exact G1
      · refine ifn (fun x => c (V.str.inj (of_decide_eq_true x))) ?_
        refine ⟨_, rfl, _, rfl, t, _, _, _, rfl, rfl, (ht.same s4).sq, str_at hlt rfl, rfl, _, rfl, ?_⟩
        by_cases c2 : m[q] = ("*" : Str)
        · refine ifp (decide_eq_true (congrArg V.str c2)) ?_
          refine ⟨_, rfl, _, rfl, _, rfl, _, rfl, _, rfl, _, rfl, d, _, _, _, rfl, rfl, SqL.of (s34 _ _ hd), int_at (Mth.ends_get (wR rows) hpm) rfl, _, rfl, ?_⟩
          refine slA_of (hs.same s4) (by rw [ll]; exact k3) (Nat.le_of_lt k1) (fun c9 H5 s5 hc => ?_)
          have ec : ((sV l).drop p).take (Mth.nxs (wR rows) l p 1 - p) = sV (Mth.cut (wR rows) l p) := by
            unfold sV Mth.cut
            rw [List.map_take, List.map_drop]
          rw [ec] at hc
          have lc : (Mth.cut (wR rows) l p).length = Mth.nxs (wR rows) l p 1 - p := by
            unfold Mth.cut
            rw [List.length_take, List.length_drop]
            omega
          refine catA_q (z4.same s5) hc (by rw [sV, sV, List.length_map, List.length_map, lc]; omega) fun r6 H6 s6 z6 => ?_
          have s46 := s5.trans s6
          refine ⟨_, rfl, _, rfl, d, _, _, _, rfl, rfl, SqL.of ((s34.trans s46) _ _ hd), int_at (Mth.ends_get (wR rows) hpm) rfl, _, rfl, _, _, rfl, rfl, ?_⟩
          have ez : sV u ++ sV (Mth.cut (wR rows) l p) = sV (u ++ Mth.cut (wR rows) l p) := (List.map_append ..).symm
          rw [ez] at z6
          refine ⟨some (.int (0 + (i : Nat))), r6, Mth.nxs (wR rows) l p 1, q + 1, n', u ++ Mth.cut (wR rows) l p, rfl, s4.trans s46, s34.trans s46, z6, by rw [List.length_append, lc]; omega, by omega, k3, hlt, nextU _ _ _ fun o h => ?_, S1, ?_⟩
          · rw [drop_cut hpm, dm, c2]
            exact .right _ _ _ _ (Mth.cut_forest (wR rows) O.f hpm) (by rw [cut_head hpm]; exact fun x => c (Option.some.inj x)) h
          · rw [c2, w0, Nat.zero_add] at G2
            exact G2
        · refine ifn (fun x => c2 (V.str.inj (of_decide_eq_true x))) ?_
          refine ⟨_, rfl, _, rfl, s, _, _, _, rfl, rfl, (hs.same s4).sq, str_at hpm rfl, _, rfl, _, rfl, t, _, _, _, rfl, rfl, (ht.same s4).sq, str_at hlt rfl, rfl, _, rfl, ?_⟩
          by_cases c3 : l[p] = m[q]
          · refine ifn (by rw [c3]; simp) ?_
            refine ⟨_, rfl, _, rfl, _, rfl, s, _, _, _, rfl, rfl, (hs.same s4).sq, str_at hpm rfl, le_line (show 1 ≤ 100000 by decide), fun p5 h5 => ?_⟩
            have s5 := (Same.refl H4).upd_new (o := .tup [.str l[p]]) h5
            refine catA_q (z4.same s5) (ys := sV [l[p]]) (.of upd_same) (by rw [sV, sV, List.length_map]; show u.length + 1 ≤ _; omega) fun r6 H6 s6 z6 => ?_
            have s46 := s5.trans s6
            refine ⟨_, rfl, _, _, rfl, rfl, _, rfl, _, _, rfl, rfl, ?_⟩
            have ez : sV u ++ sV [l[p]] = sV (u ++ [l[p]]) := (List.map_append ..).symm
            rw [ez] at z6
            refine ⟨some (.int (0 + (i : Nat))), r6, p + 1, q + 1, wR rows l[p] + n', u ++ [l[p]], rfl, s4.trans s46, s34.trans s46, z6, by rw [List.length_append]; show u.length + 1 ≤ _; omega, by omega, hpm, hlt, nextU _ _ _ fun o h => ?_, G1, by rw [c3]; exact G2⟩
            rw [dl, dm, ← c3]
            exact .same _ _ _ _ h
          · refine ifp (by simp; exact c3) ?_
            refine k _ _ none s4 ?_ rfl
            refine hU none ?_
            rw [dl, dm]
            exact .clash _ _ _ _ c3 c c2
    · rintro σ H4 ⟨z, r, p, q, n, u, rfl, s4, s34, z4, hul, hip, hpl, hql, hU, F1, F2⟩
      rw [ll, lm] at hip
      omega
end
end Sh
end
section
set_option Elab.async false
set_option linter.all false
set_option maxRecDepth 100000
set_option maxHeartbeats 2000000
namespace Sh
open PySem PySem.Spec PyProof.Rows L2
open C8 (pss_cut tCut)
open Evl (ixN_nat)
def spPathsM : Sp := fun vs H Q _ => ∃ (b t : Addr) (rows : List Row) (l : List Str), vs = [.ref b, .ref t] ∧ H b = some (.dK (wL rows)) ∧ ROk 8 rows ∧ Tq H t (l.map V.str) ∧ WfOk rows l ∧ ∀ H' q, Same H H' → H q = none → PthsL H' q rows l → Q (.ref q) H'
abbrev s_law_paths : Stmt := top 55
abbrev N_law_paths : List Str := ["arity", "row", "paths", "waiting", "entry", "path", "many", "k"]
theorem sc_law_paths : FnScope N_law_paths ["arity", "row"] (defScope s_law_paths) := ⟨rfl, rfl, rfl, by decide +kernel, rfl, by decide +kernel, by decide +kernel⟩
section
variable {P : Program} {w : World} {K : PySem.W.Frag} {mg : Str → Option Value} {base : Heap} {C : Addr}
theorem ok_pathsM (T : Bm mg) (D : Def0 K mg "_law_paths" s_law_paths) : DefOk P w K mg base CX0 1 "_law_paths" spPathsM := by
  refine D.ok sc_law_paths (fun vs H Q E h => ?_) (fun _ _ _ _ _ _ us hl => match us, hl with | [_, _], _ => rfl) (fun f cdv A outer s H vs Q E hr h => ?_)
  · obtain ⟨b, t, rows, l, rfl, _⟩ := h
    rfl
  · obtain ⟨b, t, rows, l, rfl, hB, R, ht, O, k⟩ := h
    have hu := hu_of hr
    have hsz := O.sz
    refine ⟨_, (pss_cons (ps_set (i := 2) sc_law_paths.nd rfl (Or.inl rfl) (pe_lst pa_nil))
      (pss_cons (ps_set (i := 3) sc_law_paths.nd rfl (Or.inl rfl) (pe_lst (pa_cons (pe_tup pa_nil) pa_nil)))
      (pss_cons (ps_for PassesOwn.never rfl (pi_tup (pv 1)) (pg_name (i := 4) sc_law_paths.nd rfl (Or.inl rfl))
        (pss_cons (ps_set (i := 5) sc_law_paths.nd rfl (Or.inl rfl) (pe_bm0 PySem.F.plainAttrs_list PySem.F.slot_list_pop PySem.F.type_list_pop mt_pop (pv 3)))
        (pss_cons (ps_expr (pe_bm PySem.F.plainAttrs_list PySem.F.slot_list_append PySem.F.type_list_append mt_append (pv 2) (pa_cons (pv 5) pa_nil)))
        (pss_cons (ps_set (i := 6) sc_law_paths.nd rfl (Or.inl rfl) (pe_dget2 hu (pv 0) (pv 4) pe_int ⟨rfl, rfl, rfl, rfl⟩))
        (pss_one (ps_for PassesOwn.never rfl (pi_range1 (by rfl) T.b_range (pa_cons (pv 6) pa_nil)) (pg_name (i := 7) sc_law_paths.nd rfl (Or.inl rfl))
          (pss_one (ps_expr (pe_bm PySem.F.plainAttrs_list PySem.F.slot_list_append PySem.F.type_list_append mt_append (pv 3) (pa_cons (pe_op op_catA (pv 5) (pe_tup (pa_cons (pe_op op_sub (pe_op op_sub (pv 6) pe_int) (pv 7)) pa_nil))) pa_nil))))))))))
      (pss_one (ps_ret (pv 2)))))), ?_⟩
    refine ⟨le_line (by decide), fun p hp => ?_⟩
    have s1 := (Same.refl H).upd_new (o := .lst []) hp
    refine ⟨le_line (by decide), fun e he => ?_⟩
    have s2 := s1.upd_new (o := .tup []) he
    have pn2 : (upd (upd H p (.lst [])) e (.tup [])) p = some (.lst []) := by rw [upd_ne (ne_of_none upd_same he)]; exact upd_same
    refine ⟨le_line (show 1 ≤ 100000 by decide), fun q hq => ?_⟩
    have s3 := s2.upd_new (o := .lst [.ref e]) hq
    have pq : p ≠ q := ne_of_none pn2 hq
    have eq : e ≠ q := ne_of_none upd_same hq
    have hpN : H p = none := hp
    have hqN : H q = none := by
      cases z : H q with
      | none => rfl
      | some o => rw [s2 _ _ z] at hq; cases hq
    refine ⟨_, rfl, t, rfl, ⟨_, (ht.same s3).sq⟩, for_it (walk_tup (xs := l.map V.str)) (fun i σ H' => ∃ (x y z z2 : Option V) (ps ws : List Addr), σ = [some (.ref b), some (.ref t), some (.ref p), some (.ref q), x, y, z, z2] ∧ Same H H' ∧
      H' p = some (.lst (ps.map V.ref)) ∧ H' q = some (.lst (ws.map V.ref)) ∧ TsAt pV H' ps ((List.range i).map (Mth.pth (wR rows) l)) ∧ TsAt pV H' ws (Mth.stk (wR rows) l i).reverse)
      ⟨none, none, none, none, [], [e], rfl, s3, by rw [upd_ne pq]; exact pn2, upd_same, TsAt.nil, ?_⟩ (fun i σ H' _ ⟨_, _, _, _, _, _, _, q, _⟩ => (ht.same q).sq) ?_ ?_⟩
    · exact TsAt.nil.snoc (q := []) (.of (by rw [upd_ne eq]; exact upd_same))
    · rintro i v σ H1 H2 hi ⟨x, y, z, z2, ps, ws, rfl, s4, hP, hQ, tP, tQ⟩ ⟨rfl, hv⟩
      have hil : i < l.length := by rw [List.length_map] at hi; exact hi
      rw [List.getElem?_map, List.getElem?_eq_getElem hil] at hv
      cases hv
      obtain ⟨st, e1, e2⟩ := Mth.stk_step (wR rows) O.f hil
      have F := Mth.stk_len (wR rows) O.f i (Nat.le_of_lt hil)
      rw [e1, List.reverse_cons] at tQ
      obtain ⟨a, a1, a2, a3, a4⟩ := tQ.pop
      refine ⟨_, rfl, .inl ⟨rfl, _, SqL.of hQ⟩, q, _, _, rfl, rfl, hQ, (by rw [List.length_map, List.getElem?_map, a1]; rfl), ?_⟩
      have hqp : q ≠ p := pq.symm
      have hda : (ws.map V.ref).dropLast = ws.dropLast.map V.ref := (List.map_dropLast ..).symm
      rw [hda]
      have s5 := s4.upd_own (o := .lst (ws.dropLast.map V.ref)) hqN
      refine ⟨_, rfl, .inl ⟨rfl, _, SqL.of (by rw [upd_ne pq]; exact hP)⟩, _, rfl, p, _, _, rfl, rfl, (by rw [upd_ne pq]; exact hP), lt_line (by rw [List.length_map, tP.1, List.length_map, List.length_range]; omega), ?_⟩
      have s6 := s5.upd_own (o := .lst (ps.map V.ref ++ [V.ref a])) hpN
      have h5 := s6 _ _ hB
      have hw3 := wR_le R (l[i])
      refine ⟨_, rfl, b, rfl, .inl ⟨_, .inl h5⟩, _, rfl, _, DGet.k (k := .inr l[i]) h5, ?_⟩
      rw [get_wL R]
      refine ⟨_, rfl, _, rfl, (show -(2 ^ 62) ≤ ((wR rows l[i] : Nat) : Int) by omega), (show ((wR rows l[i] : Nat) : Int) < 2 ^ 62 by omega), ?_⟩
      rw [Int.toNat_natCast]
      have tk6 : TQ H2 (upd (upd H2 q (.lst (ws.dropLast.map V.ref))) p (.lst (ps.map V.ref ++ [V.ref a]))) := (TQ.lst hQ).trans (TQ.lst (ys := ps.map V.ref) (by rw [upd_ne pq]; exact hP))
      refine for_range (fun j σ H' => ∃ (z : Option V) (ws : List Addr), σ = [some (.ref b), some (.ref t), some (.ref p), some (.ref q), some (.str l[i]), some (.ref a), some (.int ((wR rows l[i] : Nat) : Int)), z] ∧ Same H H' ∧
        H' p = some (.lst ((ps ++ [a]).map V.ref)) ∧ H' q = some (.lst (ws.map V.ref)) ∧ TsAt pV H' (ps ++ [a]) ((List.range (i + 1)).map (Mth.pth (wR rows) l)) ∧ TsAt pV H' ws (st.reverse ++ ((Mth.kids (Mth.pth (wR rows) l i) (wR rows l[i])).drop (wR rows l[i] - j)).reverse) ∧ Tq H' a (pV (Mth.pth (wR rows) l i))) ?_ ?_ ?_
      · refine ⟨z2, ws.dropLast, rfl, s6, by rw [upd_same, List.map_append]; rfl, by rw [upd_ne hqp, upd_same], ?_, ?_, tk6 _ _ a3⟩
        · rw [List.range_succ, List.map_append]
          exact (tP.keep tk6).snoc (tk6 _ _ a3)
        · rw [Nat.sub_zero, List.drop_of_length_le (by rw [Mth.kids_len]; exact Nat.le_refl _), List.reverse_nil, List.append_nil]
          exact a2.keep tk6
      · rintro j σ H3 hj ⟨z, ws, rfl, s7, hP3, hQ3, tP3, tQ3, a3'⟩
        refine ⟨_, rfl, .inl ⟨rfl, _, SqL.of hQ3⟩, _, rfl, _, rfl, _, _, rfl, rfl, _, rfl, _, _, rfl, rfl, le_line (show 1 ≤ 100000 by decide), fun u hu1 => ?_⟩
        have na : a ≠ u := a3'.ne_none hu1
        have nq : q ≠ u := ne_of_none hQ3 hu1
        have np : p ≠ u := ne_of_none hP3 hu1
        have hdep := Mth.pth_dep (wR rows) O.f hil
        refine catA_of (TQ.new hu1 _ _ a3') (.of upd_same) (by unfold pV; rw [List.length_map, List.length_singleton]; omega) (fun c H4 s8 hc => ?_)
        have s9 := (Same.refl H3).upd_new (o := .tup [V.int (((wR rows l[i] : Nat) : Int) - 1 - (0 + ((j : Nat) : Int)))]) hu1
        have s10 := s9.trans s8
        have hle := Mth.stk_le (wR rows) O.f (i := i + 1) hil
        rw [e2, List.length_append, Mth.kids_len] at hle
        refine ⟨q, _, _, rfl, rfl, s10 _ _ hQ3, ?_, ?_⟩
        · rw [List.length_map, tQ3.1, List.length_append, List.length_reverse, List.length_reverse, List.length_drop, Mth.kids_len]
          exact lt_line (by omega)
        have tk10 : TQ H3 (upd H4 q (.lst (ws.map V.ref ++ [V.ref c]))) := (TQ.of_same s10).trans (TQ.lst (s10 _ _ hQ3))
        refine ⟨_, ws ++ [c], rfl, (s7.trans s10).upd_own hqN, by rw [upd_ne pq]; exact s10 _ _ hP3, by rw [upd_same, List.map_append]; rfl, ?_, ?_, ?_⟩
        · exact tP3.keep tk10
        · rw [Mth.kids_drop _ hj, List.reverse_cons, ← List.append_assoc]
          refine (tQ3.keep tk10).snoc ?_
          refine TQ.lst (s10 _ _ hQ3) _ _ ?_
          have hc2 : Tq H4 c (pV (Mth.pth (wR rows) l i) ++ [V.int (((wR rows l[i] : Nat) : Int) - 1 - (0 + ((j : Nat) : Int)))]) := hc
          rw [show ((wR rows l[i] : Nat) : Int) - 1 - (0 + ((j : Nat) : Int)) = ((wR rows l[i] - 1 - j : Nat) : Int) by omega] at hc2
          unfold pV at hc2 ⊢
          rw [List.map_append]
          exact hc2
        · exact tk10 _ _ a3'
      · rintro σ H3 ⟨z, ws, rfl, s7, hP3, hQ3, tP3, tQ3, a3'⟩
        refine ⟨_, _, _, _, _, ws, rfl, s7, hP3, hQ3, tP3, ?_⟩
        rw [Nat.sub_self, List.drop_zero, ← List.reverse_append, ← e2] at tQ3
        exact tQ3
    · rintro σ H1 ⟨x, y, z, z2, ps, ws, rfl, s4, hP, hQ, tP, tQ⟩
      refine ⟨_, rfl, k _ _ s4 hpN ⟨ps, hP, ?_⟩⟩
      rw [List.length_map] at tP
      exact tP
end
end Sh
end
section
set_option Elab.async false
set_option linter.all false
set_option maxRecDepth 100000
set_option maxHeartbeats 2000000
namespace Sh
open PySem PySem.Spec PyProof.Rows L2
open C8 (pss_cut tCut)
open Evl (ixN_nat)
/-- two values that are the same, of at most n layers: numbers, texts, tuples of such -/
def Sam : Nat → Hp → V → V → Prop
  | 0, _, _, _ => False
  | n + 1, H, v, u => (∃ i, v = .int i ∧ u = .int i) ∨ (∃ z : Str, v = .str z ∧ u = .str z) ∨
    ∃ (a b : Addr) (xs ys : List V), v = .ref a ∧ u = .ref b ∧ Tq H a xs ∧ Tq H b ys ∧ xs.length = ys.length ∧ xs.length ≤ 100000 ∧ ∀ (i : Nat) (x y : V), xs[i]? = some x → ys[i]? = some y → Sam n H x y
theorem Sam.same : ∀ {n : Nat} {H H' : Hp} {v u : V}, Sam n H v u → Same H H' → Sam n H' v u
  | 0, _, _, _, _, h, _ => h
  | n + 1, H, H', v, u, h, s => by
    rcases h with h | h | ⟨a, b, xs, ys, e1, e2, h1, h2, h3, h4, h5⟩
    · exact .inl h
    · exact .inr (.inl h)
    · exact .inr (.inr ⟨a, b, xs, ys, e1, e2, h1.same s, h2.same s, h3, h4, fun i x y p q => (h5 i x y p q).same s⟩)
theorem tyx_tupM {K : PySem.W.Frag} {H : Hp} {a : Addr} {xs : List V} (h : Tq H a xs) : TyX K H (.ref a) (.type "tuple") := by
  rcases h with h | ⟨o, h⟩
  · exact .base (.tup h)
  · exact .fTuple h
def spSam (n : Nat) : Sp := fun vs H Q _ => ∃ v u, vs = [v, u] ∧ Sam n H v u ∧ ∀ H', Same H H' → Q (.bl true) H'
abbrev s_law_same : Stmt := top 62
abbrev N_law_same : List Str := ["actual", "due", "k"]
theorem sc_law_same : FnScope N_law_same ["actual", "due"] (defScope s_law_same) := ⟨rfl, rfl, rfl, by decide +kernel, rfl, by decide +kernel, by decide +kernel⟩
section
variable {P : Program} {w : World} {K : PySem.W.Frag} {mg : Str → Option Value} {base : Heap} {C : Addr}
theorem ok_sam (T : Bm mg) (D : Def0 K mg "_law_same" s_law_same) : ∀ n, DefOk P w K mg base CX0 n "_law_same" (spSam n)
  | 0 => by
    obtain ⟨f, fd, hm, F⟩ := D
    exact ⟨f, hm, F.kp, fun A outer s H us vs Q E hr e0 r hs => by obtain ⟨v, u, _, h, _⟩ := hs; exact h.elim⟩
  | n + 1 => by
    have c_law_same := ok_sam T D n
    refine D.ok sc_law_same (fun vs H Q E h => ?_) (fun _ _ _ _ _ _ us hl => match us, hl with | [_, _], _ => rfl) (fun f cdv A outer s H vs Q E hr h => ?_)
    · obtain ⟨v, u, rfl, _⟩ := h
      rfl
    · obtain ⟨v, u, rfl, hE, k⟩ := h
      refine ⟨_, (pss_cons (ps_if (pt_val (pe_callB call_isi (by rfl) T.b_isinstance (by decide +kernel) (pa_cons (pv 1) (pa_cons (pe_bltn (v := .ty "tuple") (by rfl) T.b_tuple boot_tuple rfl) pa_nil))))
          (pss_cons (ps_if (PW.pt (pw_or (pt_not (pt_val (pe_callB call_isi (by rfl) T.b_isinstance (by decide +kernel) (pa_cons (pv 0) (pa_cons (pe_bltn (v := .ty "tuple") (by rfl) T.b_tuple boot_tuple rfl) pa_nil))))) (pw_or1 (pt_cmpR op_ne (pe_callB call_len_seq (by rfl) T.b_len boot_len (pa_cons (pv 0) pa_nil)) (pe_callB call_len_seq (by rfl) T.b_len boot_len (pa_cons (pv 1) pa_nil)) (nomark _)))))
            (pss_one (ps_ret pe_bl))
            pss_nil)
          (pss_cons (ps_for PassesOwn.never rfl (pi_range1 (by rfl) T.b_range (pa_cons (pe_callB call_len_seq (by rfl) T.b_len boot_len (pa_cons (pv 1) pa_nil)) pa_nil)) (pg_name (i := 2) sc_law_same.nd rfl (Or.inl rfl))
            (pss_one (ps_if (pt_not (pt_val (pe_d c_law_same hr pass0 (pa_cons (pe_ix ix_tup (pv 0) (pv 2) (fun _ _ => rfl)) (pa_cons (pe_ix ix_tup (pv 1) (pv 2) (fun _ _ => rfl)) pa_nil)))))
              (pss_one (ps_ret pe_bl))
              pss_nil)))
          (pss_one (ps_ret pe_bl))))
          pss_nil)
        (pss_cons (ps_if (pt_cmpR op_isN (pv 1) pe_non (nomark _))
          (pss_one (ps_ret (pe_cmpR op_isN (pv 0) pe_non (nomark _))))
          pss_nil)
        (pss_cons (ps_if (pt_val (pe_callB call_isi (by rfl) T.b_isinstance (by decide +kernel) (pa_cons (pv 1) (pa_cons (pe_bltn (v := .ty "bool") (by rfl) T.b_bool boot_bool rfl) pa_nil))))
          (pss_one (ps_ret (pe_and (pe_callB call_isi (by rfl) T.b_isinstance (by decide +kernel) (pa_cons (pv 0) (pa_cons (pe_bltn (v := .ty "bool") (by rfl) T.b_bool boot_bool rfl) pa_nil))) (pe_one (pe_cmpR op_eq (pv 0) (pv 1) (nomark _))))))
          pss_nil)
        (pss_cons (ps_if (pt_val (pe_callB call_isi (by rfl) T.b_isinstance (by decide +kernel) (pa_cons (pv 1) (pa_cons (pe_bltn (v := .ty "str") (by rfl) T.b_str boot_str rfl) pa_nil))))
          (pss_one (ps_ret (pe_and (pe_callB call_isi (by rfl) T.b_isinstance (by decide +kernel) (pa_cons (pv 0) (pa_cons (pe_bltn (v := .ty "str") (by rfl) T.b_str boot_str rfl) pa_nil))) (pe_one (pe_cmpR op_eq (pv 0) (pv 1) (nomark _))))))
          pss_nil)
        (pss_one (ps_ret (pe_and (pe_callB call_isi (by rfl) T.b_isinstance (by decide +kernel) (pa_cons (pv 0) (pa_cons (pe_bltn (v := .ty "int") (by rfl) T.b_int boot_int rfl) pa_nil))) (pe_and (pe_not (pe_callB call_isi (by rfl) T.b_isinstance (by decide +kernel) (pa_cons (pv 0) (pa_cons (pe_bltn (v := .ty "bool") (by rfl) T.b_bool boot_bool rfl) pa_nil)))) (pe_one (pe_cmpR op_eq (pv 0) (pv 1) (nomark _))))))))))), ?_⟩
      rcases hE with ⟨i, rfl, rfl⟩ | ⟨z, rfl, rfl⟩ | ⟨a, b, xs, ys, rfl, rfl, h1, h2, h3, h4, h5⟩
      · refine ⟨_, rfl, _, _, _, _, false, rfl, .ty _, .base (.int _), rfl, _, rfl, ifn (by decide) ?_⟩
        refine ⟨_, rfl, rfl, _, rfl, ifn (fun e => by cases of_decide_eq_true e) ?_⟩
        refine ⟨_, rfl, _, _, _, _, false, rfl, .ty _, .base (.int _), rfl, _, rfl, ifn (by decide) ?_⟩
        refine ⟨_, rfl, _, _, _, _, false, rfl, .ty _, .base (.int _), rfl, _, rfl, ifn (by decide) ?_⟩
        refine ⟨_, rfl, _, _, _, _, true, rfl, .ty _, .base (.int _), rfl, _, rfl, ifp rfl ?_⟩
        refine ⟨_, rfl, _, _, _, _, false, rfl, .ty _, .base (.int _), rfl, _, rfl, _, rfl, ifp rfl ?_⟩
        refine ⟨_, rfl, _, rfl, rfl, ?_⟩
        rw [decide_eq_true rfl]
        exact k _ (Same.refl H)
      · refine ⟨_, rfl, _, _, _, _, false, rfl, .ty _, .base (.str _), rfl, _, rfl, ifn (by decide) ?_⟩
        refine ⟨_, rfl, rfl, _, rfl, ifn (fun e => by cases of_decide_eq_true e) ?_⟩
        refine ⟨_, rfl, _, _, _, _, false, rfl, .ty _, .base (.str _), rfl, _, rfl, ifn (by decide) ?_⟩
        refine ⟨_, rfl, _, _, _, _, true, rfl, .ty _, .base (.str _), rfl, _, rfl, ifp rfl ?_⟩
        refine ⟨_, rfl, _, _, _, _, true, rfl, .ty _, .base (.str _), rfl, _, rfl, ifp rfl ?_⟩
        refine ⟨_, rfl, _, rfl, rfl, ?_⟩
        rw [decide_eq_true rfl]
        exact k _ (Same.refl H)
      · refine ⟨_, rfl, _, _, _, _, true, rfl, .ty _, tyx_tupM h2, rfl, _, rfl, ifp rfl ?_⟩
        refine ⟨_, rfl, _, _, _, _, true, rfl, .ty _, tyx_tupM h1, rfl, _, rfl, ifn (by decide) ?_⟩
        refine ⟨_, rfl, a, _, rfl, .inr h1.sq, _, rfl, b, _, rfl, .inr h2.sq, rfl, _, rfl, ifn (by simp [h3]) ?_⟩
        refine ⟨_, rfl, b, _, rfl, .inr h2.sq, _, rfl, by omega, by omega, for_range (n := (((ys.length : Nat) : Int)).toNat) (fun i σ H' => ∃ x : Option V, σ = [some (.ref a), some (.ref b), x] ∧ Same H H') ⟨none, rfl, Same.refl H⟩ ?_ ?_⟩
        · rintro i σ H1 hi ⟨x, rfl, s1⟩
          have hil : i < ys.length := by rw [Int.toNat_natCast] at hi; exact hi
          have hix : i < xs.length := by omega
          refine ⟨_, rfl, _, rfl, a, _, _, _, rfl, rfl, (h1.same s1).sq, at_ofG (j := i) (by omega) (List.getElem?_eq_getElem hix), _, rfl, _, rfl, b, _, _, _, rfl, rfl, (h2.same s1).sq, at_ofG (j := i) (by omega) (List.getElem?_eq_getElem hil), _, _, rfl, (h5 i _ _ (List.getElem?_eq_getElem hix) (List.getElem?_eq_getElem hil)).same s1, fun H2 s2 => ?_⟩
          exact ⟨_, rfl, ifn (by decide) ⟨_, rfl, s1.trans s2⟩⟩
        · rintro σ H1 ⟨x, rfl, s1⟩
          exact k _ s1
end
end Sh
end
section
set_option Elab.async false
set_option linter.all false
set_option maxRecDepth 100000
set_option maxHeartbeats 2000000
namespace Sh
open PySem PySem.Spec PyProof.Rows L2
open C8 (pss_cut tCut)
open Evl (ixN_nat)
theorem eqv_rows : ∀ rows : List Row, PyData.eqvAll (rows.map rowD) (rows.map rowD) = true
  | [] => rfl
  | q :: r => by
    rw [List.map_cons, PyData.eqvAll, eqv_rows r, Bool.and_true]
    simp [rowD, PyData.eqv, PyData.eqvAll]
theorem shp_trows {rows : List Row} (h : ∀ q ∈ rows, PyData.strOk q.1 = true) : SeqAt.shaped (.tuple (rows.map rowD)) = true := by
  have q := shp_rows h
  unfold SeqAt.shaped at q ⊢
  rw [PyData.canLay0, PyData.depth] at q
  rw [PyData.canLay0, PyData.depth]
  exact q
theorem lk_same (r k w rk : Addr) : (bedF r k w rk).lookup ("same" : Str) = none := by
  have n : ¬ ("same" : Str) = "rows" ∧ ¬ ("same" : Str) = "kinds" ∧ ¬ ("same" : Str) = "widths" ∧ ¬ ("same" : Str) = "ranks" := by decide +kernel
  simp [bedF, List.lookup, n, beq_eq_false_iff_ne.mpr]
def spSmB (C : Addr) : Sp := fun vs H Q _ => ∃ (a b : Addr) (rows : List Row), vs = [.ref a, .ref b] ∧ BedAt C H a rows ∧ BedAt C H b rows ∧ ROk 8 rows ∧ Q (.bl true) H
def SmOk (P : Program) (w : World) (K : PySem.W.Frag) (mg : Str → Option Value) (base : Heap) (C : Addr) : Prop := ∃ f, Meth K C "same" f ∧ FnR P w K mg base CX0 1 f (spSmB C)
def spBeds (C : Addr) : Sp := fun vs H Q _ => ∃ (t : Addr) (bs : List Addr) (rows : List Row), vs = [.ref t] ∧ H t = some (.lst (bs.map V.ref)) ∧ (∀ b ∈ bs, BedAt C H b rows) ∧ ROk 8 rows ∧ bs.length ≤ 1000 ∧ ∀ H', Same H H' → Q .non H'
abbrev s_same : Stmt := inClass (top 34) 6
abbrev N_same : List Str := ["self", "other"]
theorem sc_same : FnScope N_same ["self", "other"] (defScope s_same) := ⟨rfl, rfl, rfl, by decide +kernel, rfl, by decide +kernel, by decide +kernel⟩
abbrev s_check_beds : Stmt := top 33
abbrev N_check_beds : List Str := ["beds", "bed"]
theorem sc_check_beds : FnScope N_check_beds ["beds"] (defScope s_check_beds) := ⟨rfl, rfl, rfl, by decide +kernel, rfl, by decide +kernel, by decide +kernel⟩
section
variable {P : Program} {w : World} {K : PySem.W.Frag} {mg : Str → Option Value} {base : Heap} {C : Addr}
theorem ok_same (B : BedT K C) {f : Addr} {fd : FuncData} (F : FunD K "same" "Bed.same" (defArgs s_same) (defBody s_same) (defScope s_same) [] [] f fd) (M : Meth K C "same" f) : SmOk P w K mg base C := by
  have G : FnOk P w K mg base CX0 1 f fd ["self", "other"] (spSmB C) := F.ok sc_same (fun vs H Q E h => by obtain ⟨a, b, rows, rfl, _⟩ := h; rfl) fun cdv A outer s H vs Q E hr h => by
    obtain ⟨a, b, rows, rfl, hA, hB, R, k⟩ := h
    obtain ⟨dx, r, kk, ww, rk, ts, h1, h2, h3, h4, h5, h6⟩ := hA
    obtain ⟨dx', r', kk', ww', rk', ts', h1', h2', h3', h4', h5', h6'⟩ := hB
    refine ⟨_, (pss_one (ps_ret (pe_cmpR (op_eqD hr.units) (pe_fld (pv 0) rfl) (pe_fld (pv 1) rfl) (nomark _)))), ?_⟩
    refine ⟨_, rfl, a, C, dx, _, _, rfl, h1, B.cl, B.nR, lk_rows _ _ _ _, _, rfl, b, C, dx', _, _, rfl, h1', B.cl, B.nR, lk_rows _ _ _ _, ?_⟩
    have dp : ∀ {r : Addr} {ts : List Addr}, H r = some (.tup (ts.map V.ref)) → TupsAt H ts rows → Dp K H (.ref r) (.tuple (rows.map rowD)) := fun {r ts} h x =>
      .tup (SqT.of h) (dpa_of (by rw [List.length_map]; exact x.1) fun i v q hv hq => by
        obtain ⟨t, ht, rfl⟩ := get_map hv
        exact .tup (SqT.of (x.2 i t q ht hq)) (.cons (.str _) (.cons (.int _) .nil)))
    have so := shp_trows fun q hq => nm_ok (R.nm q hq)
    refine ⟨_, _, dp h2 h3, dp h2' h3', so, so, ?_⟩
    rw [PyData.eqv, eqv_rows]
    exact k
  refine ⟨f, M, fun A' outer s H us vs Q E hr e0 r hs => G.raw (F.bindsN fun _ _ _ _ _ _ us hl => match us, hl with | [_, _], _ => rfl) .nil A' outer s H us vs Q E hr e0 r (by show spSmB C (vs ++ []) H Q E; rw [List.append_nil]; exact hs)⟩
theorem ok_check_beds (T : Bm mg) (B : BedT K C) (c_same : SmOk P w K mg base C) (D : Def0 K mg "check_beds" s_check_beds) : DefOk P w K mg base CX0 2 "check_beds" (spBeds C) := by
  obtain ⟨fM, M_same, F_same⟩ := c_same
  refine D.ok sc_check_beds (fun vs H Q E h => ?_) (fun _ _ _ _ _ _ us hl => match us, hl with | [_], _ => rfl) (fun f cdv A outer s' H vs Q E hr h => ?_)
  · obtain ⟨t, bs, rows, rfl, _⟩ := h
    rfl
  · obtain ⟨t, bs, rows, rfl, ht, hb, R, hl, k⟩ := h
    refine ⟨_, (pss_one (ps_for PassesOwn.never rfl (pi_list (pv 0)) (pg_name (i := 1) sc_check_beds.nd rfl (Or.inl rfl))
        (pss_one (ps_if (pt_not (pt_val (pe_methR (pe_ix ix_list (pv 0) pe_int (fun _ _ => rfl)) B.cl M_same F_same (hr.mono (by decide)) pass0 (pa_cons (pv 1) pa_nil))))
          (pss_one ps_never)
          pss_nil)))), ?_⟩
    refine ⟨_, rfl, t, rfl, ⟨_, SqL.of ht⟩, for_it (walk_list (xs := bs.map V.ref)) (fun i σ H' => ∃ x : Option V, σ = [some (.ref t), x] ∧ Same H H') ⟨none, rfl, Same.refl H⟩ (fun i σ H' _ ⟨_, _, q⟩ => SqL.of (q _ _ ht)) ?_ ?_⟩
    · rintro i v σ H1 H2 hi ⟨x, rfl, s1⟩ ⟨rfl, hv⟩
      obtain ⟨b, hb2, rfl⟩ := get_map hv
      have hpos : 0 < bs.length := Nat.lt_of_le_of_lt (Nat.zero_le i) (lt_of_get hb2)
      have B0 := (hb _ (List.getElem_mem hpos)).same s1
      have B1 := (hb _ (mem_of_get hb2)).same s1
      obtain ⟨dx, r, kk, ww, rk, ts, h1, h2⟩ := id B0
      refine ⟨_, rfl, t, _, _, _, rfl, rfl, SqL.of (s1 _ _ ht), atI_nat (j := 0) (by rw [List.getElem?_map, List.getElem?_eq_getElem hpos]; rfl), bs[0], dx, _, rfl, h1, lk_same _ _ _ _, _, rfl, bs[0], b, rows, rfl, B0, B1, R, ?_⟩
      exact ⟨_, rfl, ifn (by decide) ⟨_, rfl, s1⟩⟩
    · rintro σ H1 ⟨x, rfl, s1⟩
      exact k _ s1
end
end Sh
end
section
set_option Elab.async false
set_option linter.all false
set_option maxRecDepth 100000
set_option maxHeartbeats 2000000
namespace L2
open PySem PySem.Spec PyProof.Rows
/-- a def with a star parameter and one keyword-only parameter with a default, called without keywords -/
theorem FunD.starK {CX : CXT} {P : Program} {w : World} {K : PySem.W.Frag} {mg : Str → Option Value} {base : Heap} {k : Nat} {f : Addr} {fd : FuncData} {x qual : Str} {params : Arguments} {body : List Stmt} {scope : Scope} {N ps : List Str} {kn pv : Str} {dv : V} {sp : Sp}
    (F : FunD K x qual params body scope [] [(kn, dv)] f fd) (S : FnScope N (ps ++ [kn, pv]) scope) (hCX : StX.CXUp CX)
    (hb : ∀ (D : Addr) (doc pm : Value) (an : Option Addr) (cdv ct u : Value) (us rest : List Value), us.length = ps.length →
      ∃ (β γ : Type) (k1 : Option Value → Sem β) (k2 : β → Sem γ) (k3 : γ → Sem (List (Str × Value))) (a : β), bindArgs (PySem.W.fnOf x qual params body scope .none (.ref D) doc pm an cdv ct) ⟨us ++ rest, []⟩ = ((nsGet D kn >>= k1) >>= k2) >>= k3 ∧ k1 (some u) = pure a ∧
        (k2 a >>= k3) = (newTuple rest >>= fun t => pure (ps.zip us ++ [(kn, u), (pv, t)])))
    (hbody : ∀ (cdv : Value) (A : Around) (outer : List Env) (s : Shared) (H : Hp) (vs : List V) (Q : VK) (E : XK), Room k (A.deeper (envOfC qual scope s.heap.objs.size f cdv)) → sp vs H Q E →
      ∃ t, PSs (cxOf CX P w K mg base N qual scope f cdv A outer s H E) body t ∧ t { nx := fun _ H' => Q .non H', rt := Q } (start N vs) H) :
    FnR P w K mg base CX (k + 1) f (fun vs H Q E => ∃ ws rest, vs = ws ++ rest ∧ ws.length = ps.length ∧ rest.length ≤ sizeLine ∧ ∀ p, H p = Option.none → sp (ws ++ [dv, V.ref p]) (upd H p (.tup rest)) Q E) := by
  obtain ⟨oc, od, dV, kV, doc, pm, an, cdv, ct, osl, rfl, lk, hcd, hD, hK⟩ := F.ex
  have hD2 : dV = .none := by
    rcases hD with ⟨_, e⟩ | ⟨e, _⟩
    · exact e
    · exact absurd rfl e
  subst hD2
  rcases hK with e | ⟨D, rfl, hq⟩
  · cases e
  obtain ⟨u, hu, ru⟩ := hq _ List.mem_cons_self
  intro A outer s H us vs Q E hr e0 r hsp
  obtain ⟨ws, rest, ev, hl, hz, hq⟩ := hsp
  subst ev
  obtain ⟨u1, u2, eu, r1, r2⟩ := StX.vals_split r
  subst eu
  have hn : H s.heap.objs.size = Option.none := e0.hok.fresh (Nat.le_refl _)
  have hl1 : u1.length = ps.length := by rw [← r1.length]; exact hl
  have hl2 : u2.length ≤ sizeLine := by rw [← r2.length]; exact hz
  have KX : K.In s.heap := e0.mod.kin.keeps fun b o e => (e0.bs b o e).1
  refine StX.run_bnd lk hcd S hr e0 (G := fun xs H2 => ∃ p, H p = Option.none ∧ xs = ws ++ [dv, V.ref p] ∧ H2 = upd H p (.tup rest)) (fun A' Ex Q' h => ?_) fun s2 H2 xs ⟨p, hp, ex, eH⟩ hr' => ?_
  · obtain ⟨β, γ, k1, k2, k3, a, e1, e2, e3⟩ := hb D doc pm an cdv ct u u1 u2 hl1
    rw [e1, bind_assoc]
    have l1 : PySem.W.Looks (model P w) s.heap (nsGet D kn >>= k1) a := (PySem.W.looks_nsIn KX hu).andThen (PySem.W.Looks.of_pure e2)
    refine wpAny_bind (l1.here ?_)
    rw [e3]
    refine wpAny_bind (wpAny_newTuple (wpAny_pure ?_) hl2)
    have new : ObjOk P w (upd H s.heap.objs.size (.tup rest)) (s.heap.push ({ cls := .type "tuple", data := .seq u2.toArray } : Obj)) s.heap.objs.size (.tup rest) := ⟨hz, u2, r2, ⟨_, Heap.get?_push_size _ rfl, rfl, _, rfl⟩⟩
    have un := StX.un_laid (fs := frs outer) (s := s) (o := ({ cls := .type "tuple", data := .seq u2.toArray } : Obj)) (u := .tup rest) hn
    have z := h _ _ (ws ++ [dv, V.ref s.heap.objs.size]) (u1 ++ [u, Value.ref s.heap.objs.size]) (StX.env0_laid e0 new) un rfl (fun e s' => hCX outer s H _ _ E e s' un (fun b o q => Heap.get?_push_of_some _ q) rfl) (r1.append (.cons ru (.cons rfl .nil)))
      (by rw [List.length_append, List.length_append, hl] <;> rfl) ⟨_, hn, rfl, rfl⟩
    rw [List.zip_append hl1.symm] at z
    exact z
  · subst ex eH
    exact hbody cdv A outer s2 _ _ Q E hr' (hq p hp)
end L2
namespace Sh
open PySem PySem.Spec PyProof.Rows L2
open C8 (pss_cut tCut)
open Evl (ixN_nat)
structure TrT (K : PySem.W.Frag) (C : Addr) : Prop where
  cl : Cls K C
  nB : NoAttr K C "bed"
  nS : NoAttr K C "stump"
  nR : NoAttr K C "result"
structure TsT (K : PySem.W.Frag) (C : Addr) : Prop where
  cl : Cls K C
  nB : NoAttr K C "bed"
  nT : NoAttr K C "trims"
  nN : NoAttr K C "name"
def trF (b t u : Addr) : List (Str × V) := [("bed", .ref b), ("stump", .ref t), ("result", .ref u)]
def tsF (b t : Addr) (z : V) : List (Str × V) := [("bed", .ref b), ("trims", .ref t), ("name", z)]
theorem t_ne : ¬ ("bed" : Str) = "stump" ∧ ¬ ("bed" : Str) = "result" ∧ ¬ ("stump" : Str) = "result" ∧ ¬ ("bed" : Str) = "trims" ∧ ¬ ("bed" : Str) = "name" ∧ ¬ ("trims" : Str) = "name" := by decide +kernel
theorem tr_put2 (b t : Addr) : putF "stump" (.ref t) [("bed", .ref b)] = [(("bed" : Str), V.ref b), ("stump", .ref t)] := by simp [putF, t_ne]
theorem tr_put3 (b t u : Addr) : putF "result" (.ref u) [("bed", .ref b), ("stump", .ref t)] = trF b t u := by simp [putF, t_ne, trF]
theorem ts_put2 (b t : Addr) : putF "trims" (.ref t) [("bed", .ref b)] = [(("bed" : Str), V.ref b), ("trims", .ref t)] := by simp [putF, t_ne]
theorem ts_put3 (b t : Addr) (z : V) : putF "name" z [("bed", .ref b), ("trims", .ref t)] = tsF b t z := by simp [putF, t_ne, tsF]
theorem tr_bed (b t u : Addr) : (trF b t u).lookup ("bed" : Str) = some (.ref b) := by simp [trF, List.lookup]
theorem tr_stump (b t u : Addr) : (trF b t u).lookup ("stump" : Str) = some (.ref t) := by
  have h : (("stump" : Str) == "bed") = false := by decide +kernel
  simp [trF, List.lookup, h]
theorem ts_bed (b t : Addr) (z : V) : (tsF b t z).lookup ("bed" : Str) = some (.ref b) := by simp [tsF, List.lookup]
theorem ts_trims (b t : Addr) (z : V) : (tsF b t z).lookup ("trims" : Str) = some (.ref t) := by
  have h : (("trims" : Str) == "bed") = false := by decide +kernel
  simp [tsF, List.lookup, h]
/-- a trim, laid out -/
def TrmAt (CT : Addr) (H : Hp) (p b : Addr) (rows : List Row) (q : List Str × List Ent) : Prop := ∃ dx t u, H p = some (.ins CT dx (trF b t u)) ∧ Tz H t (sV q.1) ∧ Tz H u (q.2.map eV) ∧ TrimOk rows q.1 q.2
def TrmsAt (CT : Addr) (H : Hp) (ps : List Addr) (b : Addr) (rows : List Row) (qs : List (List Str × List Ent)) : Prop := ps.length = qs.length ∧ ∀ (i : Nat) (p : Addr) (q : List Str × List Ent), ps[i]? = some p → qs[i]? = some q → TrmAt CT H p b rows q
/-- a set of trims, laid out -/
def HeldAt (C CT CS : Addr) (H : Hp) (p b : Addr) (rows : List Row) (qs : List (List Str × List Ent)) : Prop := ∃ (dx tt : Addr) (z : V) (ps : List Addr), H p = some (.ins CS dx (tsF b tt z)) ∧ H tt = some (.tup (ps.map V.ref)) ∧ TrmsAt CT H ps b rows qs ∧ BedAt C H b rows
theorem TrmAt.same {CT : Addr} {H H' : Hp} {p b : Addr} {rows : List Row} {q : List Str × List Ent} (x : TrmAt CT H p b rows q) (s : Same H H') : TrmAt CT H' p b rows q := by
  obtain ⟨dx, t, u, h1, h2, h3, h4⟩ := x
  exact ⟨dx, t, u, s _ _ h1, h2.same s, h3.same s, h4⟩
theorem TrmsAt.same {CT : Addr} {H H' : Hp} {ps : List Addr} {b : Addr} {rows : List Row} {qs : List (List Str × List Ent)} (x : TrmsAt CT H ps b rows qs) (s : Same H H') : TrmsAt CT H' ps b rows qs := ⟨x.1, fun i p q h1 h2 => (x.2 i p q h1 h2).same s⟩
theorem HeldAt.same {C CT CS : Addr} {H H' : Hp} {p b : Addr} {rows : List Row} {qs : List (List Str × List Ent)} (x : HeldAt C CT CS H p b rows qs) (s : Same H H') : HeldAt C CT CS H' p b rows qs := by
  obtain ⟨dx, tt, z, ps, h1, h2, h3, h4⟩ := x
  exact ⟨dx, tt, z, ps, s _ _ h1, s _ _ h2, h3.same s, h4.same s⟩
theorem BedAt.kx {C x D dx : Addr} {H H' : Hp} {b : Addr} {rows : List Row} (B : BedAt C H b rows) (hx : H x = some (.ins D dx [])) (k : Kp x H H') : BedAt C H' b rows := by
  obtain ⟨dx', r, kk, w, rk, ts, h1, h2, h3, h4, h5, h6⟩ := B
  exact ⟨dx', r, kk, w, rk, ts, k _ _ h1 (ne_of h1 hx (fun e => by unfold bedF at e; cases e)), k _ _ h2 (ne_of h2 hx (fun e => nomatch e)), h3.keep (fun t xs q => k _ _ q (ne_of q hx (fun e => nomatch e))),
    k _ _ h4 (ne_of h4 hx (fun e => nomatch e)), k _ _ h5 (ne_of h5 hx (fun e => nomatch e)), k _ _ h6 (ne_of h6 hx (fun e => nomatch e))⟩
theorem tz_kx {x D dx t : Addr} {H H' : Hp} {xs : List V} {fs : List (Str × V)} (z : Tz H t xs) (hx : H x = some (.ins D dx fs)) (k : Kp x H H') : Tz H' t xs := by
  obtain ⟨o, q1, q2⟩ := z
  exact ⟨o, k _ _ q1 (ne_of q1 hx (fun e => nomatch e)), q2⟩
theorem TrmAt.kx {CT x D dx : Addr} {H H' : Hp} {p b : Addr} {rows : List Row} {q : List Str × List Ent} (y : TrmAt CT H p b rows q) (hx : H x = some (.ins D dx [])) (k : Kp x H H') : TrmAt CT H' p b rows q := by
  obtain ⟨dx', t, u, h1, h2, h3, h4⟩ := y
  exact ⟨dx', t, u, k _ _ h1 (ne_of h1 hx (fun e => by unfold trF at e; cases e)), tz_kx h2 hx k, tz_kx h3 hx k, h4⟩
def spTrimI (C CT : Addr) : Sp := fun vs H Q _ => ∃ (x dx b t u : Addr) (rows : List Row) (q : List Str × List Ent), vs = [.ref x, .ref b, .ref t, .ref u] ∧ H x = some (.ins CT dx []) ∧ BedAt C H b rows ∧ ROk 8 rows ∧ Tz H t (sV q.1) ∧ Tz H u (q.2.map eV) ∧ TrimOk rows q.1 q.2 ∧
  ∀ H', Kp x H H' → TrmAt CT H' x b rows q → Q .non H'
def spTrimsI (C CT CS : Addr) : Sp := fun vs H Q _ => ∃ (x dx b p : Addr) (z : V) (ps : List Addr) (rows : List Row) (qs : List (List Str × List Ent)), vs = [.ref x, .ref b, z, .ref p] ∧ H x = some (.ins CS dx []) ∧ H p = some (.tup (ps.map V.ref)) ∧ TrmsAt CT H ps b rows qs ∧ BedAt C H b rows ∧ ROk 8 rows ∧ qs.length ≤ 4 ∧
  ∀ H', Kp x H H' → HeldAt C CT CS H' x b rows qs → Q .non H'
abbrev s_Trim_init__ : Stmt := inClass (top 39) 0
abbrev N_Trim_init__ : List Str := ["self", "bed", "stump", "result"]
theorem sc_Trim_init__ : FnScope N_Trim_init__ ["self", "bed", "stump", "result"] (defScope s_Trim_init__) := ⟨rfl, rfl, rfl, by decide +kernel, rfl, by decide +kernel, by decide +kernel⟩
abbrev s_Trims_init__ : Stmt := inClass (top 40) 0
abbrev N_Trims_init__ : List Str := ["self", "bed", "name", "trims", "trim"]
theorem sc_Trims_init__ : FnScope N_Trims_init__ ["self", "bed", "name", "trims"] (defScope s_Trims_init__) := ⟨rfl, rfl, rfl, by decide +kernel, rfl, by decide +kernel, by decide +kernel⟩
section
variable {P : Program} {w : World} {K : PySem.W.Frag} {mg : Str → Option Value} {base : Heap} {C CT CS : Addr}
theorem body_trimI (T : Bm mg) (B : TrT K CT) (c_check_trim : DefOk P w K mg base CX0 3 "check_trim" (spChkT C)) {f : Addr} {cdv : Value} {A : Around} {outer : List Env} {s : Shared} {H : Hp} {vs : List V} {Q : VK} {E : XK} (hr : Room 3 (A.deeper (envOfC "Trim.__init__" (defScope s_Trim_init__) s.heap.objs.size f cdv))) (h : spTrimI C CT vs H Q E) :
    ∃ t, PSs (cxOf CX0 P w K mg base N_Trim_init__ "Trim.__init__" (defScope s_Trim_init__) f cdv A outer s H E) (defBody s_Trim_init__) t ∧ t { nx := fun _ H' => Q .non H', rt := Q } (start N_Trim_init__ vs) H := by
  obtain ⟨x, dx, b, t, u, rows, q, rfl, hx, hB, R, ht, hu, O, k⟩ := h
  refine ⟨_, (pss_cons (ps_expr (pe_d c_check_trim (hr.mono (by decide)) pass0 (pa_cons (pv 1) (pa_cons (pv 2) (pa_cons (pv 3) pa_nil)))))
    (pss_cons (ps_fld (pv 0) (pv 1) rfl)
    (pss_cons (ps_fld (pv 0) (pv 2) rfl)
    (pss_one (ps_fld (pv 0) (pv 3) rfl))))), ?_⟩
  refine ⟨_, rfl, _, rfl, _, rfl, b, t, u, rows, q.1, q.2, rfl, hB, R, ht, hu, O, fun H1 s1 => ?_⟩
  refine ⟨_, rfl, _, rfl, x, CT, dx, _, rfl, s1 _ _ hx, B.cl, B.nB, (by show 0 < 1000; decide), ?_⟩
  refine ⟨_, rfl, _, rfl, x, CT, dx, _, rfl, upd_same, B.cl, B.nS, (by show 1 < 1000; decide), ?_⟩
  refine ⟨_, rfl, _, rfl, x, CT, dx, _, rfl, upd_same, B.cl, B.nR, ?_, ?_⟩
  · rw [show putF "bed" (.ref b) [] = [(("bed" : Str), V.ref b)] from rfl, tr_put2]
    show 2 < 1000
    decide
  · have kk : ∀ {o1 o2 o3 : HO}, Kp x H (upd (upd (upd H1 x o1) x o2) x o3) := fun {_ _ _} => (((Kp.same s1).upd).upd).upd
    refine k _ kk ⟨dx, t, u, ?_, tz_kx ht hx kk, tz_kx hu hx kk, O⟩
    rw [upd_same, show putF "bed" (.ref b) [] = [(("bed" : Str), V.ref b)] from rfl, tr_put2, tr_put3]
theorem body_trimsI (T : Bm mg) (BT : TrT K CT) (B : TsT K CS) (c_check_beds : DefOk P w K mg base CX0 2 "check_beds" (spBeds C)) {f : Addr} {cdv : Value} {A : Around} {outer : List Env} {s : Shared} {H : Hp} {vs : List V} {Q : VK} {E : XK} (hr : Room 3 (A.deeper (envOfC "Trims.__init__" (defScope s_Trims_init__) s.heap.objs.size f cdv))) (h : spTrimsI C CT CS vs H Q E) :
    ∃ t, PSs (cxOf CX0 P w K mg base N_Trims_init__ "Trims.__init__" (defScope s_Trims_init__) f cdv A outer s H E) (defBody s_Trims_init__) t ∧ t { nx := fun _ H' => Q .non H', rt := Q } (start N_Trims_init__ vs) H := by
  obtain ⟨x, dx, b, p, z, ps, rows, qs, rfl, hx, hp, hT, hB, R, h4, k⟩ := h
  have hl := hT.1
  refine ⟨_, (pss_cons (ps_expr (pe_d c_check_beds (hr.mono (by decide)) pass0 (pa_cons (pe_lst (pa_cons (pv 1) (StX.pa_star (pe_lc (own := [("trim", 4)]) (g := (gName 4)) (tt := tYes) rfl sc_Trims_init__.nd (pi_tup (pv 3)) (blkOk_by (N := N_Trims_init__) (sc := defScope s_Trims_init__) (by decide +kernel)) (fun _ _ _ _ _ => (pg_name (i := 4) sc_Trims_init__.nd rfl (Or.inl rfl))) (fun _ _ _ _ _ => pts_nil) (fun _ _ _ _ _ => (show PE _ _ (tFld K _ _) from pe_fld (pv 4) rfl))) pa_nil))) pa_nil)))
    (pss_cons (ps_if (pt_cmpR op_gt (pe_callB call_len_seq (by rfl) T.b_len boot_len (pa_cons (pv 3) pa_nil)) (pe_cI (by rfl) T.c_MOST_TRIMS) (nomark _))
      (pss_one ps_never)
      pss_nil)
    (pss_cons (ps_fld (pv 0) (pv 1) rfl)
    (pss_cons (ps_fld (pv 0) (pv 3) rfl)
    (pss_one (ps_fld (pv 0) (pv 2) rfl)))))), ?_⟩
  refine ⟨_, rfl, _, rfl, p, rfl, ⟨_, SqT.of hp⟩, fun D hD => lc_it (walk_tup (xs := ps.map V.ref)) (fun i H' => Same H H' ∧ H' D = some (.lst ((List.replicate i b).map V.ref)))
    ⟨(Same.refl H).upd_new hD, upd_same⟩ (fun i H' _ ⟨q, _⟩ => SqT.of (q _ _ hp)) ?_ ?_⟩
  · rintro i v H1 H2 hi ⟨s1, d1⟩ ⟨rfl, hv⟩
    obtain ⟨t, ht, rfl⟩ := get_map hv
    have hi2 : i < qs.length := by rw [← hl]; exact lt_of_get ht
    obtain ⟨dx', t', u', h1, _⟩ := (hT.2 i t qs[i] ht (List.getElem?_eq_getElem hi2)).same s1
    refine ⟨rfl, _, rfl, t, CT, dx', _, _, rfl, h1, BT.cl, BT.nB, tr_bed _ _ _, _, d1, ?_, s1.upd_own hD, ?_⟩
    · rw [List.length_map, List.length_replicate]
      exact lt_line (by omega)
    · rw [upd_same, List.replicate_succ', List.map_append]
      rfl
  · rintro H1 ⟨s1, d1⟩
    refine ⟨D, _, rfl, .inr (SqL.of d1), le_line ?_, fun l hl2 => ?_⟩
    · simp only [List.length_append, List.length_cons, List.length_nil, List.length_map, List.length_replicate]
      omega
    have s2 := s1.upd_new (o := .lst ([V.ref b] ++ ((List.replicate (ps.map V.ref).length b).map V.ref ++ []))) hl2
    refine ⟨l, b :: List.replicate (ps.map V.ref).length b, rows, rfl, ?_, fun b' hb' => ?_, R, ?_, fun H2 s3 => ?_⟩
    · rw [List.append_nil]
      exact upd_same
    · have e : b' = b := by
        rcases List.mem_cons.mp hb' with e | e
        · exact e
        · exact (List.mem_replicate.mp e).2
      rw [e]
      exact hB.same s2
    · simp only [List.length_cons, List.length_map, List.length_replicate]
      omega
    have s03 := s2.trans s3
    refine ⟨_, rfl, p, _, rfl, .inr (SqT.of (s03 _ _ hp)), _, _, rfl, rfl, _, rfl, ifn (fun e => ?_) ?_⟩
    · have := of_decide_eq_true e
      rw [List.length_map] at this
      omega
    refine ⟨_, rfl, _, rfl, x, CS, dx, _, rfl, s03 _ _ hx, B.cl, B.nB, (by show 0 < 1000; decide), ?_⟩
    refine ⟨_, rfl, _, rfl, x, CS, dx, _, rfl, upd_same, B.cl, B.nT, (by show 1 < 1000; decide), ?_⟩
    refine ⟨_, rfl, _, rfl, x, CS, dx, _, rfl, upd_same, B.cl, B.nN, ?_, ?_⟩
    · rw [show putF "bed" (.ref b) [] = [(("bed" : Str), V.ref b)] from rfl, ts_put2]
      show 2 < 1000
      decide
    · have kk : ∀ {o1 o2 o3 : HO}, Kp x H (upd (upd (upd H2 x o1) x o2) x o3) := fun {_ _ _} => (((Kp.same s03).upd).upd).upd
      refine k _ kk ⟨dx, p, z, ps, ?_, kk _ _ hp (ne_of hp hx (fun e => nomatch e)), ⟨hT.1, fun i p q h1 h2 => (hT.2 i p q h1 h2).kx hx kk⟩, hB.kx hx kk⟩
      rw [upd_same, show putF "bed" (.ref b) [] = [(("bed" : Str), V.ref b)] from rfl, ts_put2, ts_put3]
end
end Sh
end
section
set_option Elab.async false
set_option linter.all false
set_option maxRecDepth 100000
set_option maxHeartbeats 2000000
namespace Sh
open PySem PySem.Spec PyProof.Rows L2
open C8 (pss_cut tCut)
open Evl (ixN_nat)
def TrimC (P : Program) (w : World) (K : PySem.W.Frag) (mg : Str → Option Value) (base : Heap) (C CT : Addr) (k : Nat) : Prop := mg "Trim" = some (.ref CT) ∧ ∃ fI, Mk K CT fI ∧ FnR P w K mg base CX0 k fI (spTrimI C CT)
def spTrimsS (C CT CS : Addr) : Sp := fun vs H Q E => ∃ ws rest, vs = ws ++ rest ∧ ws.length = (["self", "bed"] : List Str).length ∧ rest.length ≤ sizeLine ∧ ∀ p, H p = Option.none → spTrimsI C CT CS (ws ++ [V.str "trims", V.ref p]) (upd H p (.tup rest)) Q E
def TrimsC (P : Program) (w : World) (K : PySem.W.Frag) (mg : Str → Option Value) (base : Heap) (C CT CS : Addr) (k : Nat) : Prop := mg "Trims" = some (.ref CS) ∧ ∃ fI, Mk K CS fI ∧ FnR P w K mg base CX0 k fI (spTrimsS C CT CS)
def spTrim (C CT : Addr) : Sp := fun vs H Q _ => ∃ (b t u : Addr) (rows : List Row) (q : List Str × List Ent), vs = [.ref b, .ref t, .ref u] ∧ BedAt C H b rows ∧ ROk 8 rows ∧ Tz H t (sV q.1) ∧ Tz H u (q.2.map eV) ∧ TrimOk rows q.1 q.2 ∧
  ∀ H' p, Same H H' → H p = none → TrmAt CT H' p b rows q → Q (.ref p) H'
def spTrims (C CT CS : Addr) : Sp := fun vs H Q _ => ∃ (b : Addr) (ps : List Addr) (rows : List Row) (qs : List (List Str × List Ent)), vs = .ref b :: ps.map V.ref ∧ TrmsAt CT H ps b rows qs ∧ BedAt C H b rows ∧ ROk 8 rows ∧ qs.length ≤ 4 ∧
  ∀ H' p, Same H H' → H p = none → HeldAt C CT CS H' p b rows qs → Q (.ref p) H'
theorem pe_trim {X : Cx} {C CT : Addr} {k : Nat} {e : Expr} {es : List Expr} {t : TA} {p pos : Pos} (D : TrimC X.prog X.w X.K X.mg X.base C CT k) (hr : Room (k + 1) X.A) (ha : PA X (e :: es) t) (hg : Gl X "Trim" := by rfl)
    (he : starEach (e :: es) X.env = (false, eval e X.env) :: starEach es X.env := by rfl) (hpl : (backTo pos (starEach es X.env)).any (·.1) = false := by rfl) :
    PE X (.Call (.Name "Trim" p) (e :: es) [] pos) (tCallR (spTrim C CT) E0 t) := by
  obtain ⟨hm, fI, M, F⟩ := D
  refine ⟨fun pins s σ H Q I h => ?_⟩
  refine wpAny_Call_Name_kw (ld_glob I hg hm ?_ (by decide))
  refine PySem.W.callWith_K (h₀ := X.base) I.ok.mod.kin M.kp (thn (ha.run pos pins s σ H _ I h) fun us s1 ⟨vs, H1, I1, r, q⟩ => ⟨I1.kIn, ?_⟩) he hpl
  obtain ⟨b, t, u, rows, q, rfl, hB, R, ht, hu, O, k⟩ := q
  refine StX.run_makeR M F hr pass0 I1 r fun x dx hx hd hxd => ?_
  have s1 : Same H1 (upd (upd H1 dx (.own x)) x (.ins CT dx [])) := ((Same.refl H1).upd_new hd).upd_own hx
  refine ⟨x, dx, b, t, u, rows, q, rfl, upd_same, hB.same s1, R, ht.same s1, hu.same s1, O, fun H' kk y => ⟨rfl, ?_⟩⟩
  exact k H' x (fun b o hb => kk b o (s1 b o hb) (ne_of_none hb hx)) hx y
theorem pe_trims {X : Cx} {C CT CS : Addr} {k : Nat} {e : Expr} {es : List Expr} {t : TA} {p pos : Pos} (D : TrimsC X.prog X.w X.K X.mg X.base C CT CS k) (hr : Room (k + 1) X.A) (ha : PA X (e :: es) t) (hg : Gl X "Trims" := by rfl)
    (he : starEach (e :: es) X.env = (false, eval e X.env) :: starEach es X.env := by rfl) (hpl : (backTo pos (starEach es X.env)).any (·.1) = false := by rfl) :
    PE X (.Call (.Name "Trims" p) (e :: es) [] pos) (tCallR (spTrims C CT CS) E0 t) := by
  obtain ⟨hm, fI, M, F⟩ := D
  refine ⟨fun pins s σ H Q I h => ?_⟩
  refine wpAny_Call_Name_kw (ld_glob I hg hm ?_ (by decide))
  refine PySem.W.callWith_K (h₀ := X.base) I.ok.mod.kin M.kp (thn (ha.run pos pins s σ H _ I h) fun us s1 ⟨vs, H1, I1, r, q⟩ => ⟨I1.kIn, ?_⟩) he hpl
  obtain ⟨b, ps, rows, qs, rfl, hT, hB, R, h4, k⟩ := q
  refine StX.run_makeR M F hr pass0 I1 r fun x dx hx hd hxd => ?_
  have s1 : Same H1 (upd (upd H1 dx (.own x)) x (.ins CS dx [])) := ((Same.refl H1).upd_new hd).upd_own hx
  refine ⟨[.ref x, .ref b], ps.map V.ref, rfl, rfl, ?_, fun p hp => ?_⟩
  · rw [List.length_map, hT.1]
    exact le_line (by omega)
  have s2 := s1.upd_new (o := .tup (ps.map V.ref)) hp
  have nxp : x ≠ p := ne_of_none (upd_same (H := upd H1 dx (.own x)) (a := x)) hp
  refine ⟨x, dx, b, p, .str "trims", ps, rows, qs, rfl, by rw [upd_ne nxp, upd_same], upd_same, hT.same s2, hB.same s2, R, h4, fun H' kk y => ⟨rfl, ?_⟩⟩
  exact k H' x (fun b o hb => kk b o (s2 b o hb) (ne_of_none hb hx)) hx y
def spHeld (C CT CS : Addr) : Sp := fun vs H Q _ => ∃ (b M : Addr) (rows : List Row) (ps : List Addr) (prs : List (List Str × List Ent)), vs = [.ref b, .ref M] ∧ BedAt C H b rows ∧ ROk 8 rows ∧ H M = some (.lst (ps.map V.ref)) ∧ MdAt rows H ps prs ∧ prs.length ≤ 4 ∧
  ∀ H' p, Same H H' → HeldAt C CT CS H' p b rows prs → Q (.ref p) H'
theorem TrmsAt.snoc {CT : Addr} {H : Hp} {ps : List Addr} {b : Addr} {rows : List Row} {qs : List (List Str × List Ent)} {p : Addr} {q : List Str × List Ent} (x : TrmsAt CT H ps b rows qs) (h : TrmAt CT H p b rows q) : TrmsAt CT H (ps ++ [p]) b rows (qs ++ [q]) := by
  refine ⟨by rw [List.length_append, List.length_append, x.1]; rfl, fun i p' q' a c => ?_⟩
  by_cases hi : i < ps.length
  · rw [List.getElem?_append_left hi] at a
    rw [List.getElem?_append_left (by rw [← x.1]; exact hi)] at c
    exact x.2 i p' q' a c
  · rw [List.getElem?_append_right (by omega)] at a
    rw [List.getElem?_append_right (by rw [← x.1]; omega)] at c
    rw [x.1] at a
    cases hj : i - qs.length with
    | zero =>
      rw [hj] at a c
      cases a
      cases c
      exact h
    | succ j =>
      rw [hj] at a
      simp at a
theorem TrmAt.lst {CT : Addr} {H : Hp} {p b F : Addr} {rows : List Row} {q : List Str × List Ent} {ys : List V} {o : HO} (x : TrmAt CT H p b rows q) (hF : H F = some (.lst ys)) : TrmAt CT (upd H F o) p b rows q := by
  obtain ⟨dx, t, u, h1, h2, h3, h4⟩ := x
  have z : ∀ {t : Addr} {xs : List V}, Tz H t xs → Tz (upd H F o) t xs := fun {t xs} h => by
    obtain ⟨o', q1, q2⟩ := h
    exact ⟨o', by rw [upd_ne (fun e => by rw [e, hF] at q1; cases q1)]; exact q1, q2⟩
  exact ⟨dx, t, u, by rw [upd_ne (fun e => by rw [e, hF] at h1; cases h1)]; exact h1, z h2, z h3, h4⟩
theorem TrmsAt.lst {CT : Addr} {H : Hp} {ps : List Addr} {b F : Addr} {rows : List Row} {qs : List (List Str × List Ent)} {ys : List V} {o : HO} (x : TrmsAt CT H ps b rows qs) (hF : H F = some (.lst ys)) : TrmsAt CT (upd H F o) ps b rows qs := ⟨x.1, fun i p q a c => (x.2 i p q a c).lst hF⟩
abbrev s_law_held : Stmt := top 53
abbrev N_law_held : List Str := ["bed", "made", "given", "pair"]
theorem sc_law_held : FnScope N_law_held ["bed", "made"] (defScope s_law_held) := ⟨rfl, rfl, rfl, by decide +kernel, rfl, by decide +kernel, by decide +kernel⟩
section
variable {P : Program} {w : World} {K : PySem.W.Frag} {mg : Str → Option Value} {base : Heap} {C CT CS : Addr}
theorem ok_held (T : Bm mg) (c_Trim : TrimC P w K mg base C CT 4) (c_Trims : TrimsC P w K mg base C CT CS 4) (D : Def0 K mg "_law_held" s_law_held) : DefOk P w K mg base CX0 6 "_law_held" (spHeld C CT CS) := by
  refine D.ok sc_law_held (fun vs H Q E h => ?_) (fun _ _ _ _ _ _ us hl => match us, hl with | [_, _], _ => rfl) (fun f cdv A outer s H vs Q E hr h => ?_)
  · obtain ⟨b, M, rows, ps, prs, rfl, _⟩ := h
    rfl
  · obtain ⟨b, M, rows, ps, prs, rfl, hB, R, hM, hP, h4, k⟩ := h
    refine ⟨_, (pss_cons (ps_setLc (i := 2) (own := [("pair", 3)]) (g := (gName 3)) (tt := tYes) rfl sc_law_held.nd rfl rfl (sw_true rfl rfl rfl (by decide +kernel)) (pi_list (pv 1)) (blkOk_by (N := N_law_held) (sc := defScope s_law_held) (by decide +kernel)) (fun _ _ _ _ _ => (pg_name (i := 3) sc_law_held.nd rfl (Or.inl rfl))) (fun _ _ _ _ _ => pts_nil) (fun _ _ _ _ _ => (pe_trim c_Trim (hr.mono (by decide)) (pa_cons (pv 0) (pa_cons (pe_ix (show IxR _ (rIxT K) from ix_tup) (pv 3) pe_int (fun _ _ => rfl)) (pa_cons (pe_ix (show IxR _ (rIxT K) from ix_tup) (pv 3) pe_int (fun _ _ => rfl)) pa_nil))))))
      (pss_cons (ps_if (pt_cmpR op_eq (pe_callB call_len_seq (by rfl) T.b_len boot_len (pa_cons (pv 2) pa_nil)) pe_int (nomark _))
        (pss_one (ps_ret (pe_trims c_Trims (hr.mono (by decide)) (pa_cons (pv 0) pa_nil))))
        pss_nil)
      (pss_cons (ps_if (pt_cmpR op_eq (pe_callB call_len_seq (by rfl) T.b_len boot_len (pa_cons (pv 2) pa_nil)) pe_int (nomark _))
        (pss_one (ps_ret (pe_trims c_Trims (hr.mono (by decide)) (pa_cons (pv 0) (pa_cons (pe_ix ix_list (pv 2) pe_int (fun _ _ => rfl)) pa_nil)))))
        pss_nil)
      (pss_cons (ps_if (pt_cmpR op_eq (pe_callB call_len_seq (by rfl) T.b_len boot_len (pa_cons (pv 2) pa_nil)) pe_int (nomark _))
        (pss_one (ps_ret (pe_trims c_Trims (hr.mono (by decide)) (pa_cons (pv 0) (pa_cons (pe_ix ix_list (pv 2) pe_int (fun _ _ => rfl)) (pa_cons (pe_ix ix_list (pv 2) pe_int (fun _ _ => rfl)) pa_nil))))))
        pss_nil)
      (pss_cons (ps_if (pt_cmpR op_eq (pe_callB call_len_seq (by rfl) T.b_len boot_len (pa_cons (pv 2) pa_nil)) pe_int (nomark _))
        (pss_one (ps_ret (pe_trims c_Trims (hr.mono (by decide)) (pa_cons (pv 0) (pa_cons (pe_ix ix_list (pv 2) pe_int (fun _ _ => rfl)) (pa_cons (pe_ix ix_list (pv 2) pe_int (fun _ _ => rfl)) (pa_cons (pe_ix ix_list (pv 2) pe_int (fun _ _ => rfl)) pa_nil)))))))
        pss_nil)
      (pss_one (ps_ret (pe_trims c_Trims (hr.mono (by decide)) (pa_cons (pv 0) (pa_cons (pe_ix ix_list (pv 2) pe_int (fun _ _ => rfl)) (pa_cons (pe_ix ix_list (pv 2) pe_int (fun _ _ => rfl)) (pa_cons (pe_ix ix_list (pv 2) pe_int (fun _ _ => rfl)) (pa_cons (pe_ix ix_list (pv 2) pe_int (fun _ _ => rfl)) pa_nil))))))))))))), ?_⟩
    refine ⟨_, rfl, M, rfl, ⟨_, SqL.of hM⟩, fun D hD => lc_list (xs := ps.map V.ref) (fun i H' => Same H H' ∧ ∃ ts, H' D = some (.lst (ts.map V.ref)) ∧ TrmsAt CT H' ts b rows (prs.take i))
      ⟨(Same.refl H).upd_new hD, [], upd_same, rfl, fun i t q hi => by simp at hi⟩ (fun i H' _ ⟨q, _⟩ => SqL.of (q _ _ hM)) ?_ ?_⟩
    · rintro i v H1 hv ⟨s1, ts, d1, t1⟩
      obtain ⟨p, hp, rfl⟩ := get_map hv
      have hi : i < prs.length := by rw [← hP.1]; exact lt_of_get hp
      obtain ⟨t, u, z1, z2, z3, O⟩ := (hP.2 i p prs[i] hp (List.getElem?_eq_getElem hi)).same s1
      refine ⟨rfl, _, rfl, _, rfl, p, _, _, _, rfl, rfl, z1.q.sq, atI_nat (j := 0) rfl, _, rfl, p, _, _, _, rfl, rfl, z1.q.sq, atI_nat (j := 1) rfl, b, t, u, rows, prs[i], rfl, hB.same s1, R, z2, z3, O, fun H2 x s2 hx y => ?_⟩
      have d2 := s2 _ _ d1
      refine ⟨_, d2, ?_, (s1.trans s2).upd_own hD, ts ++ [x], by rw [upd_same, List.map_append]; rfl, ?_⟩
      · rw [List.length_map, t1.1, List.length_take]
        exact lt_line (by omega)
      · rw [← take_snoc (List.getElem?_eq_getElem hi)]
        exact ((t1.same s2).snoc y).lst d2
    · rintro H1 ⟨s1, ts, d1, t1⟩
      rw [List.length_map, hP.1, List.take_length] at t1
      have hl := t1.1
      have hB1 := hB.same s1
      have fin : ∀ ts', ts' = ts → spTrims C CT CS (.ref b :: ts'.map V.ref) H1 Q E0 := fun ts' e => by
        subst e
        exact ⟨b, ts', rows, prs, rfl, t1, hB1, R, h4, fun H' p s' _ y => k H' p (s1.trans s') y⟩
      clear k t1
      have l4 : ts.length ≤ 4 := by omega
      match ts, l4 with
      | [], _ =>
        refine ⟨_, rfl, D, _, rfl, .inl (SqL.of d1), rfl, _, rfl, ifp (by simp) ?_⟩
        exact ⟨_, rfl, fin [] rfl⟩
      | [t0], _ =>
        refine ⟨_, rfl, D, _, rfl, .inl (SqL.of d1), rfl, _, rfl, ifn (by simp) ?_⟩
        refine ⟨_, rfl, D, _, rfl, .inl (SqL.of d1), rfl, _, rfl, ifp (by simp) ?_⟩
        exact ⟨_, rfl, _, rfl, D, _, _, _, rfl, rfl, SqL.of d1, atI_nat (j := 0) rfl, fin [t0] rfl⟩
      | [t0, t1], _ =>
        refine ⟨_, rfl, D, _, rfl, .inl (SqL.of d1), rfl, _, rfl, ifn (by simp) ?_⟩
        refine ⟨_, rfl, D, _, rfl, .inl (SqL.of d1), rfl, _, rfl, ifn (by simp) ?_⟩
        refine ⟨_, rfl, D, _, rfl, .inl (SqL.of d1), rfl, _, rfl, ifp (by simp) ?_⟩
        exact ⟨_, rfl, _, rfl, D, _, _, _, rfl, rfl, SqL.of d1, atI_nat (j := 0) rfl, _, rfl, D, _, _, _, rfl, rfl, SqL.of d1, atI_nat (j := 1) rfl, fin [t0, t1] rfl⟩
      | [t0, t1, t2], _ =>
        refine ⟨_, rfl, D, _, rfl, .inl (SqL.of d1), rfl, _, rfl, ifn (by simp) ?_⟩
        refine ⟨_, rfl, D, _, rfl, .inl (SqL.of d1), rfl, _, rfl, ifn (by simp) ?_⟩
        refine ⟨_, rfl, D, _, rfl, .inl (SqL.of d1), rfl, _, rfl, ifn (by simp) ?_⟩
        refine ⟨_, rfl, D, _, rfl, .inl (SqL.of d1), rfl, _, rfl, ifp (by simp) ?_⟩
        exact ⟨_, rfl, _, rfl, D, _, _, _, rfl, rfl, SqL.of d1, atI_nat (j := 0) rfl, _, rfl, D, _, _, _, rfl, rfl, SqL.of d1, atI_nat (j := 1) rfl, _, rfl, D, _, _, _, rfl, rfl, SqL.of d1, atI_nat (j := 2) rfl, fin [t0, t1, t2] rfl⟩
      | [t0, t1, t2, t3], _ =>
        refine ⟨_, rfl, D, _, rfl, .inl (SqL.of d1), rfl, _, rfl, ifn (by simp) ?_⟩
        refine ⟨_, rfl, D, _, rfl, .inl (SqL.of d1), rfl, _, rfl, ifn (by simp) ?_⟩
        refine ⟨_, rfl, D, _, rfl, .inl (SqL.of d1), rfl, _, rfl, ifn (by simp) ?_⟩
        refine ⟨_, rfl, D, _, rfl, .inl (SqL.of d1), rfl, _, rfl, ifn (by simp) ?_⟩
        exact ⟨_, rfl, _, rfl, D, _, _, _, rfl, rfl, SqL.of d1, atI_nat (j := 0) rfl, _, rfl, D, _, _, _, rfl, rfl, SqL.of d1, atI_nat (j := 1) rfl, _, rfl, D, _, _, _, rfl, rfl, SqL.of d1, atI_nat (j := 2) rfl, _, rfl, D, _, _, _, rfl, rfl, SqL.of d1, atI_nat (j := 3) rfl, fin [t0, t1, t2, t3] rfl⟩
      | _ :: _ :: _ :: _ :: _ :: _, h => exact absurd h (by simp)
end
end Sh
end
section
set_option Elab.async false
set_option linter.all false
set_option maxRecDepth 100000
set_option maxHeartbeats 2000000
set_option autoImplicit false
namespace Mth
open Sh (Un)
variable {w : PySem.Str → Nat}
theorem hd_of {t l l' : List PySem.Str} {a : PySem.Str} (ht : forest w t 1 = true) (e : a :: l = t ++ l') : t.head? = some a := by
  cases t with
  | nil => exact absurd rfl (forest_pos w ht)
  | cons x r =>
    injection e with e1 e2
    rw [e1]
    rfl
theorem app_inj {t t' l l' : List PySem.Str} (ht : forest w t 1 = true) (ht' : forest w t' 1 = true) (e : t ++ l = t' ++ l') : t = t' ∧ l = l' := by
  have a := skip_app w t l 1 ht
  have b := skip_app w t' l' 1 ht'
  rw [e, b] at a
  subst a
  exact ⟨List.append_cancel_right e, rfl⟩
theorem un_uq {x y : List PySem.Str} {o : Option (List PySem.Str)} (h : Un w x y o) : ∀ {x' y' : List PySem.Str} {o' : Option (List PySem.Str)}, Un w x' y' o' → x = x' → y = y' → o = o' := by
  induction h with
  | nil r =>
    intro x' y' o' h' ex ey
    cases h' with
    | nil => rfl
    | same => cases ey
    | right => cases ey
    | left t l m o ht h1 h => exact absurd (List.append_eq_nil_iff.mp ey.symm).1 (forest_pos w ht)
    | clash => cases ey
  | same a l m o h ih =>
    intro x' y' o' h' ex ey
    cases h' with
    | nil => cases ey
    | same a' l' m' o'' h'' =>
      cases ex
      cases ey
      rw [ih h'' rfl rfl]
    | right t l' m' o'' ht h1 h'' =>
      cases ey
      exact absurd (hd_of ht ex) h1
    | left t l' m' o'' ht h1 h'' =>
      cases ex
      exact absurd (hd_of ht ey) h1
    | clash a' b l' m' n1 n2 n3 =>
      cases ex
      cases ey
      exact absurd rfl n1
  | right t l m o ht h1 h ih =>
    intro x' y' o' h' ex ey
    cases h' with
    | nil => cases ey
    | same a' l' m' o'' h'' =>
      cases ey
      exact absurd (hd_of ht ex.symm) h1
    | right t' l' m' o'' ht' h1' h'' =>
      cases ey
      obtain ⟨rfl, rfl⟩ := app_inj ht ht' ex
      rw [ih h'' rfl rfl]
    | left t' l' m' o'' ht' h1' h'' => exact absurd (hd_of ht ex.symm) h1
    | clash a' b l' m' n1 n2 n3 =>
      cases ey
      exact absurd rfl n3
  | left t l m o ht h1 h ih =>
    intro x' y' o' h' ex ey
    cases h' with
    | nil => exact absurd (List.append_eq_nil_iff.mp ey).1 (forest_pos w ht)
    | same a' l' m' o'' h'' =>
      cases ex
      exact absurd (hd_of ht ey.symm) h1
    | right t' l' m' o'' ht' h1' h'' => exact absurd (hd_of ht' ex) h1'
    | left t' l' m' o'' ht' h1' h'' =>
      cases ex
      obtain ⟨rfl, rfl⟩ := app_inj ht ht' ey
      rw [ih h'' rfl rfl]
    | clash a' b l' m' n1 n2 n3 =>
      cases ex
      exact absurd rfl n2
  | clash a b l m n1 n2 n3 =>
    intro x' y' o' h' ex ey
    cases h' with
    | nil => cases ey
    | same a' l' m' o'' h'' =>
      cases ex
      cases ey
      exact absurd rfl n1
    | right t' l' m' o'' ht' h1' h'' =>
      cases ey
      exact absurd rfl n3
    | left t' l' m' o'' ht' h1' h'' =>
      cases ex
      exact absurd rfl n2
    | clash => rfl
theorem cons_of {a x : List PySem.Str} {n : Nat} {z : PySem.Str} {r l : List PySem.Str} (ha : forest w a (n + 1) = true) (e : z :: l = a ++ r) : ∃ a', a = z :: a' ∧ l = a' ++ r ∧ forest w a' (w z + n) = true := by
  cases a with
  | nil => exact absurd rfl (forest_pos w ha)
  | cons y a' =>
    injection e with e1 e2
    subst e1
    exact ⟨a', rfl, e2, ha⟩
theorem split_one {a : List PySem.Str} {n : Nat} (ha : forest w a (n + 1) = true) : ∃ t a', a = t ++ a' ∧ forest w t 1 = true ∧ forest w a' n = true := by
  rw [Nat.add_comm] at ha
  refine ⟨a.take (a.length - (skip w a 1).length), skip w a 1, ?_, forest_take w a 1 n ha, forest_skip w a 1 n ha⟩
  obtain ⟨j, hj, e⟩ := skip_suffix w a 1
  rw [e, List.length_drop, show a.length - (a.length - j) = j by omega, List.take_append_drop]
/-- what stands behind the first forests plays no part -/
theorem un_cut (w0 : w "*" = 0) {x m : List PySem.Str} {o : Option (List PySem.Str)} (h : Un w x m o) : ∀ (a r : List PySem.Str) (n : Nat), x = a ++ r → forest w a n = true → forest w m n = true → Un w a m o := by
  induction h with
  | nil x => intro a r n e ha hm; exact .nil _
  | same z l m o h ih =>
    intro a r n e ha hm
    cases n with
    | zero => cases hm
    | succ n =>
      obtain ⟨a', rfl, e2, ha'⟩ := cons_of (x := []) ha e
      exact .same _ _ _ _ (ih a' r _ e2 ha' hm)
  | right t l m o ht h1 h ih =>
    intro a r n e ha hm
    cases n with
    | zero => cases hm
    | succ n =>
      have hm2 : forest w m (w "*" + n) = true := hm
      rw [w0, Nat.zero_add] at hm2
      obtain ⟨t', a', rfl, ht', ha'⟩ := split_one ha
      rw [List.append_assoc] at e
      obtain ⟨rfl, e2⟩ := app_inj ht ht' e
      exact .right _ _ _ _ ht h1 (ih a' r n e2 ha' hm2)
  | left t l m o ht h1 h ih =>
    intro a r n e ha hm
    cases n with
    | zero => exact absurd (List.append_eq_nil_iff.mp (forest_zero w hm)).1 (forest_pos w ht)
    | succ n =>
      obtain ⟨a', rfl, e2, ha'⟩ := cons_of (x := []) ha e
      rw [w0, Nat.zero_add] at ha'
      have hm2 := forest_skip w (t ++ m) 1 n (by rw [Nat.add_comm]; exact hm)
      rw [skip_app w t m 1 ht] at hm2
      exact .left _ _ _ _ ht h1 (ih a' r n e2 ha' hm2)
  | clash z b l m n1 n2 n3 =>
    intro a r n e ha hm
    cases n with
    | zero => cases hm
    | succ n =>
      obtain ⟨a', rfl, e2, ha'⟩ := cons_of (x := []) ha e
      exact .clash _ _ _ _ n1 n2 n3
theorem pth_nil {l : List PySem.Str} (h : forest w l 1 = true) {i : Nat} (hi : i < l.length) : pth w l i = [] ↔ i = 0 := by
  constructor
  · intro e
    have q := pth_walk w h hi
    rw [e] at q
    have q2 : walk w l 0 [] = some 0 := by unfold walk; rfl
    rw [q2] at q
    injection q with q
    exact q.symm
  · rintro rfl
    unfold pth stk
    rfl
end Mth
namespace Sh
open PySem PySem.Spec PyProof.Rows L2
open C8 (pss_cut tCut)
open Evl (ixN_nat)
open Classical in
/-- the union, as a function -/
noncomputable def unF (w : Str → Nat) (l m : List Str) : Option (List Str) := if h : ∃ o, Un w l m o then h.choose else none
theorem unF_eq {w : Str → Nat} {l m : List Str} {o : Option (List Str)} (h : Un w l m o) : unF w l m = o := by
  have e : ∃ o, Un w l m o := ⟨o, h⟩
  unfold unF
  rw [dif_pos e]
  exact Mth.un_uq e.choose_spec h rfl rfl
theorem unF_cut {w : Str → Nat} (w0 : w "*" = 0) {l m : List Str} {p : Nat} {o : Option (List Str)} (hl : Mth.forest w l 1 = true) (hm : Mth.forest w m 1 = true) (hp : p < l.length) (h : Un w (l.drop p) m o) : unF w (Mth.cut w l p) m = o :=
  unF_eq (Mth.un_cut w0 h (Mth.cut w l p) _ 1 (drop_cut hp) (Mth.cut_forest w hl hp) hm)
theorem unF_le {w : Str → Nat} {l m u : List Str} (h : unF w l m = some u) : u.length ≤ l.length + m.length := by
  unfold unF at h
  split at h
  · rename_i e
    exact Un.le e.choose_spec u h
  · cases h
abbrev Pk := List Ent × Nat × List Nat × Nat
/-- the row of a peak -/
def rowP (w : Str → Nat) (s : List Str) (p : Nat) (u : List Str) : List Ent := tgs 0 (s.take p ++ u ++ s.drop (Mth.nxs w s p 1))
noncomputable def pkJ (w : Str → Nat) (ss : List (List Str)) (i p j : Nat) : List Pk :=
  if 0 < p ∨ i < j then match unF w (Mth.cut w (ss.getD i []) p) (ss.getD j []) with
    | none => []
    | some u => [(rowP w (ss.getD i []) p u, i, Mth.pth w (ss.getD i []) p, j)]
  else []
noncomputable def pkP (w : Str → Nat) (ss : List (List Str)) (i p n : Nat) : List Pk := (List.range n).flatMap (pkJ w ss i p)
noncomputable def pkI (w : Str → Nat) (ss : List (List Str)) (i n : Nat) : List Pk := (List.range n).flatMap fun p => if (ss.getD i []).getD p "" = "*" then [] else pkP w ss i p ss.length
noncomputable def pkS (w : Str → Nat) (ss : List (List Str)) (n : Nat) : List Pk := (List.range n).flatMap fun i => pkI w ss i (ss.getD i []).length
theorem fm_succ {α β : Type} (f : Nat → List β) (n : Nat) : (List.range (n + 1)).flatMap f = (List.range n).flatMap f ++ f n := by
  rw [List.range_succ, List.flatMap_append, List.flatMap_cons, List.flatMap_nil, List.append_nil]
theorem fm_len {β : Type} (f : Nat → List β) (c : Nat) (h : ∀ i, (f i).length ≤ c) : ∀ n, ((List.range n).flatMap f).length ≤ n * c
  | 0 => by simp
  | n + 1 => by
    rw [fm_succ (α := β), List.length_append, Nat.add_mul, Nat.one_mul]
    have := fm_len f c h n
    have := h n
    omega
theorem pkJ_len (w : Str → Nat) (ss : List (List Str)) (i p j : Nat) : (pkJ w ss i p j).length ≤ 1 := by
  unfold pkJ
  split
  · split
    · exact Nat.zero_le _
    · exact Nat.le_refl _
  · exact Nat.zero_le _
theorem pkP_len (w : Str → Nat) (ss : List (List Str)) (i p n : Nat) : (pkP w ss i p n).length ≤ n := by
  have := fm_len (pkJ w ss i p) 1 (fun j => pkJ_len w ss i p j) n
  unfold pkP
  omega
theorem pkI_len (w : Str → Nat) {ss : List (List Str)} (h4 : ss.length ≤ 4) (i n : Nat) : (pkI w ss i n).length ≤ n * 4 := by
  refine fm_len _ 4 (fun p => ?_) n
  split
  · exact Nat.zero_le _
  · exact Nat.le_trans (pkP_len w ss i p _) h4
theorem pkS_len (w : Str → Nat) {ss : List (List Str)} (h4 : ss.length ≤ 4) (h7 : ∀ s ∈ ss, s.length ≤ 7) (n : Nat) : (pkS w ss n).length ≤ n * 28 := by
  refine fm_len _ 28 (fun i => ?_) n
  refine Nat.le_trans (pkI_len w h4 i _) ?_
  have : (ss.getD i []).length ≤ 7 := by
    rw [List.getD_eq_getElem?_getD]
    cases e : ss[i]? with
    | none => exact Nat.zero_le _
    | some s => exact h7 s (List.mem_of_getElem? e)
  omega
/-- a peak, laid out -/
def PkAt (H : Hp) (t : Addr) (k : Pk) : Prop := ∃ a p, Tq H t [.ref a, .int ((k.2.1 : Nat) : Int), .ref p, .int ((k.2.2.2 : Nat) : Int)] ∧ Tq H a (k.1.map eV) ∧ Tq H p (pV k.2.2.1)
def PksAt (H : Hp) (ts : List Addr) (ks : List Pk) : Prop := ts.length = ks.length ∧ ∀ (i : Nat) (t : Addr) (k : Pk), ts[i]? = some t → ks[i]? = some k → PkAt H t k
theorem PkAt.keep {H H' : Hp} {t : Addr} {k : Pk} (x : PkAt H t k) (q : TQ H H') : PkAt H' t k := by
  obtain ⟨a, p, h1, h2, h3⟩ := x
  exact ⟨a, p, q _ _ h1, q _ _ h2, q _ _ h3⟩
theorem PksAt.keep {H H' : Hp} {ts : List Addr} {ks : List Pk} (x : PksAt H ts ks) (q : TQ H H') : PksAt H' ts ks := ⟨x.1, fun i t k a b => (x.2 i t k a b).keep q⟩
theorem PksAt.nil {H : Hp} : PksAt H [] [] := ⟨rfl, fun i t x a => by simp at a⟩
theorem PksAt.snoc {H : Hp} {ts : List Addr} {ks : List Pk} {t : Addr} {k : Pk} (x : PksAt H ts ks) (h : PkAt H t k) : PksAt H (ts ++ [t]) (ks ++ [k]) := by
  refine ⟨by rw [List.length_append, List.length_append, x.1]; rfl, fun i p' q' a c => ?_⟩
  by_cases hi : i < ts.length
  · rw [List.getElem?_append_left hi] at a
    rw [List.getElem?_append_left (by rw [← x.1]; exact hi)] at c
    exact x.2 i p' q' a c
  · rw [List.getElem?_append_right (by omega)] at a
    rw [List.getElem?_append_right (by rw [← x.1]; omega)] at c
    rw [x.1] at a
    cases hj : i - ks.length with
    | zero =>
      rw [hj] at a c
      cases a
      cases c
      exact h
    | succ j =>
      rw [hj] at a
      simp at a
theorem sam_int {H : Hp} (n : Nat) (i : Int) : Sam (n + 1) H (.int i) (.int i) := .inl ⟨i, rfl, rfl⟩
theorem sam_ent {H : Hp} (n : Nat) (x : Ent) : Sam (n + 1) H (eV x) (eV x) := by
  cases x with
  | k z => exact .inr (.inl ⟨z, rfl, rfl⟩)
  | n i => exact .inl ⟨_, rfl, rfl⟩
theorem sam_tup {H : Hp} {n : Nat} {a b : Addr} {xs ys : List V} (h1 : Tq H a xs) (h2 : Tq H b ys) (hl : xs.length = ys.length) (h5 : xs.length ≤ 100000) (h : ∀ (i : Nat) (x y : V), xs[i]? = some x → ys[i]? = some y → Sam n H x y) : Sam (n + 1) H (.ref a) (.ref b) := .inr (.inr ⟨a, b, xs, ys, rfl, rfl, h1, h2, hl, h5, h⟩)
theorem sam_map {α : Type} {H : Hp} {n : Nat} {a b : Addr} {f : α → V} {l : List α} (h1 : Tq H a (l.map f)) (h2 : Tq H b (l.map f)) (h5 : l.length ≤ 100000) (h : ∀ x ∈ l, Sam n H (f x) (f x)) : Sam (n + 1) H (.ref a) (.ref b) := by
  refine sam_tup h1 h2 rfl (by rw [List.length_map]; exact h5) fun i x y a b => ?_
  rw [a] at b
  cases b
  obtain ⟨z, hz, rfl⟩ := get_map a
  exact h z (mem_of_get hz)
theorem sam_pk {H : Hp} {t u : Addr} {k : Pk} (x : PkAt H t k) (y : PkAt H u k) (h1 : k.1.length ≤ 100000) (h2 : k.2.2.1.length ≤ 100000) : Sam 3 H (.ref t) (.ref u) := by
  obtain ⟨a, p, x1, x2, x3⟩ := x
  obtain ⟨b, q, y1, y2, y3⟩ := y
  refine sam_tup x1 y1 rfl (by show 4 ≤ 100000; decide) fun i v v' e e' => ?_
  match i, e, e' with
  | 0, e, e' =>
    cases e
    cases e'
    exact sam_map x2 y2 h1 fun z _ => sam_ent _ z
  | 1, e, e' =>
    cases e
    cases e'
    exact sam_int _ _
  | 2, e, e' =>
    cases e
    cases e'
    exact sam_map (f := fun n : Nat => V.int ((n : Nat) : Int)) x3 y3 h2 fun z _ => sam_int _ _
  | 3, e, e' =>
    cases e
    cases e'
    exact sam_int _ _
  | i + 4, e, _ => simp at e
theorem sam_pks {H : Hp} {a b : Addr} {ts us : List Addr} {ks : List Pk} (h1 : Tq H a (ts.map V.ref)) (h2 : Tq H b (us.map V.ref)) (x : PksAt H ts ks) (y : PksAt H us ks) (hl : ks.length ≤ 100000) (hk : ∀ k ∈ ks, k.1.length ≤ 100000 ∧ k.2.2.1.length ≤ 100000) : Sam 4 H (.ref a) (.ref b) := by
  refine sam_tup h1 h2 (by rw [List.length_map, List.length_map, x.1, y.1]) (by rw [List.length_map, x.1]; exact hl) fun i v v' e e' => ?_
  obtain ⟨t, ht, rfl⟩ := get_map e
  obtain ⟨u, hu, rfl⟩ := get_map e'
  have hi : i < ks.length := by rw [← x.1]; exact lt_of_get ht
  have hm := hk _ (List.getElem_mem hi)
  exact sam_pk (x.2 i t _ ht (List.getElem?_eq_getElem hi)) (y.2 i u _ hu (List.getElem?_eq_getElem hi)) hm.1 hm.2
theorem sl_to {K : PySem.W.Frag} {H : Hp} {a : Addr} {xs : List V} {Q : VK} {j : Nat} (ha : Tq H a xs) (hj : j ≤ xs.length) (k : ∀ r H', Same H H' → Tq H' r (xs.take j) → Q (.ref r) H') : rSlA K (.ref a) none (some (j : Int)) H Q := by
  have e1 : HT.sIx xs.length 0 none = 0 := rfl
  have e2 : HT.sIx xs.length xs.length (some (j : Int)) = j := by rw [HT.sIx_nat]; omega
  refine ⟨a, xs, rfl, ha.sq, fun h => ?_, fun _ p hp => ?_⟩
  · rw [e2] at h
    refine k a H (Same.refl H) ?_
    rw [h.2, List.take_length]
    exact ha
  · refine k p _ ((Same.refl H).upd_new hp) (.of ?_)
    rw [upd_same]
    unfold cutV
    rw [e1, e2, List.drop_zero, Nat.sub_zero]
theorem sl_from {K : PySem.W.Frag} {H : Hp} {a : Addr} {xs : List V} {Q : VK} {i : Nat} (ha : Tq H a xs) (hi : i ≤ xs.length) (k : ∀ r H', Same H H' → Tq H' r (xs.drop i) → Q (.ref r) H') : rSlA K (.ref a) (some (i : Int)) none H Q := by
  have e1 : HT.sIx xs.length 0 (some (i : Int)) = i := by rw [HT.sIx_nat]; omega
  have e2 : HT.sIx xs.length xs.length none = xs.length := rfl
  refine ⟨a, xs, rfl, ha.sq, fun h => ?_, fun _ p hp => ?_⟩
  · rw [e1] at h
    refine k a H (Same.refl H) ?_
    rw [h.1, List.drop_zero]
    exact ha
  · refine k p _ ((Same.refl H).upd_new hp) (.of ?_)
    rw [upd_same]
    unfold cutV
    rw [e1, e2, List.take_of_length_le (by rw [List.length_drop]; exact Nat.le_refl _)]
end Sh
end
section
set_option Elab.async false
set_option linter.all false
set_option maxRecDepth 100000
set_option maxHeartbeats 2000000
namespace Sh
open PySem PySem.Spec PyProof.Rows L2
open C8 (pss_cut tCut)
open Evl (ixN_nat)
/-- what comes of two trims at a place -/
def PlV (rows : List Row) (H : Hp) (v : V) (o : Option (List Str)) (s : List Str) (p : Nat) : Prop := match o with
  | none => v = .non
  | some u => ∃ a, v = .ref a ∧ Tq H a ((rowP (wR rows) s p u).map eV)
def EndsL (rows : List Row) (H : Hp) (es : List Addr) (qs : List (List Str × List Ent)) : Prop := es.length = qs.length ∧ ∀ (i : Nat) (e : Addr) (q : List Str × List Ent), es[i]? = some e → qs[i]? = some q → EndsAt H e rows q.1
theorem EndsL.same {rows : List Row} {H H' : Hp} {es : List Addr} {qs : List (List Str × List Ent)} (x : EndsL rows H es qs) (s : Same H H') : EndsL rows H' es qs := ⟨x.1, fun i e q a b => s _ _ (x.2 i e q a b)⟩
def spPeakPl (C CT CS : Addr) : Sp := fun vs H Q _ => ∃ (h E b : Addr) (rows : List Row) (qs : List (List Str × List Ent)) (es : List Addr) (i p j : Nat) (hi : i < qs.length) (hj : j < qs.length), vs = [.ref h, .ref E, .int (i : Nat), .int (p : Nat), .int (j : Nat)] ∧ HeldAt C CT CS H h b rows qs ∧ ROk 8 rows ∧
  H E = some (.lst (es.map V.ref)) ∧ EndsL rows H es qs ∧ p < qs[i].1.length ∧ ∀ H' v, Same H H' → PlV rows H' v (unF (wR rows) (Mth.cut (wR rows) qs[i].1 p) qs[j].1) qs[i].1 p → Q v H'
abbrev s_peak_plant : Stmt := top 24
abbrev N_peak_plant : List Str := ["trims", "ends", "index", "place", "other", "stump", "union"]
theorem sc_peak_plant : FnScope N_peak_plant ["trims", "ends", "index", "place", "other"] (defScope s_peak_plant) := ⟨rfl, rfl, rfl, by decide +kernel, rfl, by decide +kernel, by decide +kernel⟩
section
variable {P : Program} {w : World} {K : PySem.W.Frag} {mg : Str → Option Value} {base : Heap} {C CT CS : Addr}
theorem ok_peak_plant (T : Bm mg) (BT : TrT K CT) (BS : TsT K CS) (c_union_of : DefOk P w K mg base CX0 1 "union_of" spUnionOf) (c_with_tags : DefOk P w K mg base CX0 1 "with_tags" (spTags fun l H t => H t = some (.lst (sV l)))) (D : Def0 K mg "peak_plant" s_peak_plant) : DefOk P w K mg base CX0 2 "peak_plant" (spPeakPl C CT CS) := by
  refine D.ok sc_peak_plant (fun vs H Q E h => ?_) (fun _ _ _ _ _ _ us hl => match us, hl with | [_, _, _, _, _], _ => rfl) (fun f cdv A outer s' H vs Q E' hr h => ?_)
  · obtain ⟨h, E, b, rows, qs, es, i, p, j, hi, hj, rfl, _⟩ := h
    rfl
  · obtain ⟨h, E, b, rows, qs, es, i, p, j, hi, hj, rfl, hH, R, hE, hL, hp, k⟩ := h
    obtain ⟨dx, tt, z, ps, h1, h2, h3, h4⟩ := id hH
    have hpi : i < ps.length := by rw [h3.1]; exact hi
    have hpj : j < ps.length := by rw [h3.1]; exact hj
    have hei : i < es.length := by rw [hL.1]; exact hi
    have hej : j < es.length := by rw [hL.1]; exact hj
    have ai : (ps.map V.ref)[i]? = some (.ref ps[i]) := by rw [List.getElem?_map, List.getElem?_eq_getElem hpi]; rfl
    have aj : (ps.map V.ref)[j]? = some (.ref ps[j]) := by rw [List.getElem?_map, List.getElem?_eq_getElem hpj]; rfl
    have ei : (es.map V.ref)[i]? = some (.ref es[i]) := by rw [List.getElem?_map, List.getElem?_eq_getElem hei]; rfl
    have ej : (es.map V.ref)[j]? = some (.ref es[j]) := by rw [List.getElem?_map, List.getElem?_eq_getElem hej]; rfl
    obtain ⟨dxi, ti, ui, i1, i2, i3, Oi⟩ := h3.2 i ps[i] qs[i] (List.getElem?_eq_getElem hpi) (List.getElem?_eq_getElem hi)
    obtain ⟨dxj, tj, uj, j1, j2, j3, Oj⟩ := h3.2 j ps[j] qs[j] (List.getElem?_eq_getElem hpj) (List.getElem?_eq_getElem hj)
    have li := hL.2 i es[i] qs[i] (List.getElem?_eq_getElem hei) (List.getElem?_eq_getElem hi)
    have lj := hL.2 j es[j] qs[j] (List.getElem?_eq_getElem hej) (List.getElem?_eq_getElem hj)
    generalize qs[i] = qi at *
    generalize qs[j] = qj at *
    generalize ps[i] = pi at *
    generalize ps[j] = pj at *
    generalize es[i] = eei at *
    generalize es[j] = eej at *
    refine ⟨_, (pss_cons (ps_set (i := 5) sc_peak_plant.nd rfl (Or.inl rfl) (pe_fld (pe_ix ix_tup (pe_fld (pv 0) rfl) (pv 2) (fun _ _ => rfl)) rfl))
      (pss_cons (ps_set (i := 6) sc_peak_plant.nd rfl (Or.inl rfl) (pe_d c_union_of (hr.mono (by decide)) pass0 (pa_cons (pv 5) (pa_cons (pe_ix ix_list (pv 1) (pv 2) (fun _ _ => rfl)) (pa_cons (pv 3) (pa_cons (pe_fld (pe_ix ix_tup (pe_fld (pv 0) rfl) (pv 4) (fun _ _ => rfl)) rfl) (pa_cons (pe_ix ix_list (pv 1) (pv 4) (fun _ _ => rfl)) pa_nil)))))))
      (pss_cons (ps_if (pt_cmpR op_isN (pv 6) pe_non (nomark _))
        (pss_one (ps_ret pe_non))
        pss_nil)
      (pss_one (ps_ret (pe_d c_with_tags (hr.mono (by decide)) pass0 (pa_cons (pe_lst (StX.pa_star (pe_slice sl_tupA (pv 5) po_none (po_some (pv 3))) (StX.pa_star (pv 6) (StX.pa_star (pe_slice sl_tupA (pv 5) (po_some (pe_ix ix_list (pe_ix ix_list (pv 1) (pv 2) (fun _ _ => rfl)) (pv 3) (fun _ _ => rfl))) po_none) pa_nil)))) pa_nil))))))), ?_⟩
    refine ⟨_, rfl, h, CS, dx, _, _, rfl, h1, BS.cl, BS.nT, ts_trims _ _ _, _, rfl, tt, _, _, _, rfl, rfl, SqT.of h2, atI_nat (j := i) ai, pi, CT, dxi, _, _, rfl, i1, BT.cl, BT.nS, tr_stump _ _ _, ?_⟩
    refine ⟨_, rfl, _, rfl, _, rfl, E, _, _, _, rfl, rfl, SqL.of hE, atI_nat (j := i) ei, _, rfl, _, rfl, h, CS, dx, _, _, rfl, h1, BS.cl, BS.nT, ts_trims _ _ _, _, rfl, tt, _, _, _, rfl, rfl, SqT.of h2, atI_nat (j := j) aj, pj, CT, dxj, _, _, rfl, j1, BT.cl, BT.nS, tr_stump _ _ _,
      _, rfl, _, rfl, E, _, _, _, rfl, rfl, SqL.of hE, atI_nat (j := j) ej, ti, eei, tj, eej, p, rows, qi.1, qj.1, rfl, R, i2.q, Oi.st.wf, hp, j2.q, Oj.st.wf, li, lj, fun H1 v o s1 hU hV => ?_⟩
    have eu := unF_cut (star_no R) Oi.st.f Oj.st.f hp hU
    rw [eu] at k
    cases o with
    | none =>
      have hV : v = .non := hV
      subst hV
      exact ⟨_, rfl, rfl, _, rfl, ifp rfl (k _ _ s1 rfl)⟩
    | some u =>
      obtain ⟨q, rfl, hq⟩ := hV
      have ul := unF_le eu
      have l7 := Oi.l7
      have l7' := Oj.l7
      have lc := Mth.cut_len (wR rows) qi.1 p
      have lsi : (sV qi.1).length = qi.1.length := by rw [sV, List.length_map]
      have tz1 := i2.q.same s1
      refine ⟨_, rfl, rfl, _, rfl, ifn (fun e => by cases of_decide_eq_true e) ?_⟩
      refine ⟨_, rfl, _, rfl, _, rfl, sl_to tz1 (by rw [lsi]; omega) fun r1 H2 s2 z2 => ?_⟩
      have s02 := s1.trans s2
      have li2 : H2 eei = some _ := s02 _ _ li
      have g := Mth.ends_get (wR rows) hp
      have n1 := Mth.nxs_le (wR rows) qi.1 p 1
      refine ⟨r1, _, rfl, .inl z2.sq, _, rfl, q, _, rfl, .inr (SqL.of (s2 _ _ hq)), _, rfl, _, rfl, _, rfl, E, _, _, _, rfl, rfl, SqL.of (s02 _ _ hE), atI_nat (j := i) ei, _, rfl, eei, _, _, _, rfl, rfl, SqL.of li2, int_at g rfl, _, rfl, ?_⟩
      unfold tNoPart
      refine sl_from (i := Mth.nxs (wR rows) qi.1 p 1) (i2.q.same s02) (by rw [lsi]; exact n1) fun r2 H3 s3 z3 => ?_
      refine ⟨r2, _, rfl, .inl z3.sq, le_line ?_, fun F hF => ?_⟩
      · simp only [List.length_append, List.length_take, List.length_drop, List.length_nil, lsi]
        rw [sV, List.length_map]
        omega
      have e2 : (sV qi.1).take p ++ (sV u ++ ((sV qi.1).drop (Mth.nxs (wR rows) qi.1 p 1) ++ [])) = sV (qi.1.take p ++ u ++ qi.1.drop (Mth.nxs (wR rows) qi.1 p 1)) := by
        rw [List.append_nil, ← List.append_assoc]
        unfold sV
        rw [List.map_append, List.map_append, List.map_take, List.map_drop]
      rw [e2]
      have s03 := s02.trans s3
      refine ⟨F, _, rfl, upd_same, ?_, fun H4 r s4 z4 => ?_⟩
      · simp only [List.length_append, List.length_take, List.length_drop]
        omega
      · exact k _ _ ((s03.upd_new hF).trans s4) ⟨r, rfl, z4⟩
end
end Sh
end
section
set_option Elab.async false
set_option linter.all false
set_option maxRecDepth 100000
set_option maxHeartbeats 2000000
namespace Sh
open PySem PySem.Spec PyProof.Rows L2
open C8 (pss_cut tCut)
open Evl (ixN_nat)
theorem Kp.tqL {F : Addr} {H H' : Hp} {ys : List V} (x : Kp F H H') (hF : H F = some (.lst ys)) : TQ H H' := fun t xs q => by
  rcases q with q | ⟨o, q⟩
  · exact .inl (x _ _ q (ne_of q hF (fun e => nomatch e)))
  · exact .inr ⟨o, x _ _ q (ne_of q hF (fun e => nomatch e))⟩
theorem pkJ_no {w : Str → Nat} {ss : List (List Str)} {i p j : Nat} (h : ¬ (0 < p ∨ i < j)) : pkJ w ss i p j = [] := by
  unfold pkJ
  rw [if_neg h]
theorem pkJ_none {w : Str → Nat} {ss : List (List Str)} {i p j : Nat} (h : unF w (Mth.cut w (ss.getD i []) p) (ss.getD j []) = none) : pkJ w ss i p j = [] := by
  unfold pkJ
  rw [h]
  split <;> rfl
theorem pkJ_some {w : Str → Nat} {ss : List (List Str)} {i p j : Nat} {u : List Str} (h0 : 0 < p ∨ i < j) (h : unF w (Mth.cut w (ss.getD i []) p) (ss.getD j []) = some u) : pkJ w ss i p j = [(rowP w (ss.getD i []) p u, i, Mth.pth w (ss.getD i []) p, j)] := by
  unfold pkJ
  rw [if_pos h0, h]
theorem pkP_succ (w : Str → Nat) (ss : List (List Str)) (i p n : Nat) : pkP w ss i p (n + 1) = pkP w ss i p n ++ pkJ w ss i p n := fm_succ (α := Nat) _ n
theorem pkI_hole {w : Str → Nat} {ss : List (List Str)} {i n : Nat} (h : (ss.getD i []).getD n "" = "*") : pkI w ss i (n + 1) = pkI w ss i n := by
  have := fm_succ (α := Nat) (fun p => if (ss.getD i []).getD p "" = "*" then [] else pkP w ss i p ss.length) n
  unfold pkI
  rw [this, if_pos h, List.append_nil]
theorem pkI_knot {w : Str → Nat} {ss : List (List Str)} {i n : Nat} (h : (ss.getD i []).getD n "" ≠ "*") : pkI w ss i (n + 1) = pkI w ss i n ++ pkP w ss i n ss.length := by
  have := fm_succ (α := Nat) (fun p => if (ss.getD i []).getD p "" = "*" then [] else pkP w ss i p ss.length) n
  unfold pkI
  rw [this, if_neg h]
theorem pkS_succ (w : Str → Nat) (ss : List (List Str)) (n : Nat) : pkS w ss (n + 1) = pkS w ss n ++ pkI w ss n (ss.getD n []).length := fm_succ (α := Nat) _ n
theorem getD_at {α : Type} {l : List α} {i : Nat} {d : α} (h : i < l.length) : l.getD i d = l[i] := by
  rw [List.getD_eq_getElem?_getD, List.getElem?_eq_getElem h]
  rfl
theorem ss_at {qs : List (List Str × List Ent)} {i : Nat} (h : i < qs.length) : (qs.map (·.1)).getD i [] = qs[i].1 := by
  rw [getD_at (by rw [List.length_map]; exact h), List.getElem_map]
theorem eqvT : ∀ ds : List PyData, PyData.eqv (.tuple ds) (.tuple []) = ds.isEmpty
  | [] => by simp [PyData.eqv, PyData.eqvAll]
  | _ :: _ => by simp [PyData.eqv, PyData.eqvAll]
def pthD (p : List Nat) : PyData := .tuple (p.map fun n => PyData.int ((n : Nat) : Int))
theorem dp_pth {K : PySem.W.Frag} {H : Hp} {a : Addr} {p : List Nat} (h : Tq H a (pV p)) : Dp K H (.ref a) (pthD p) := .tup h.sq (dpa_map (fun n => .int _) p)
theorem shp_tints (p : List Nat) : SeqAt.shaped (pthD p) = true := by
  have a := lay_all (ds := p.map fun n => PyData.int ((n : Nat) : Int)) fun d hd => by
    obtain ⟨z, hz, rfl⟩ := List.mem_map.mp hd
    exact ⟨rfl, rfl⟩
  have q : PyData.canLay0 (pthD p) = true := by unfold pthD; rw [PyData.canLay0]; exact a.1
  have r : PyData.depth (pthD p) ≤ 64 := by unfold pthD; rw [PyData.depth, a.2]; decide
  unfold SeqAt.shaped
  rw [q, decide_eq_true r]
  rfl
def spPeaks (C CT CS : Addr) : Sp := fun vs H Q _ => ∃ (h b : Addr) (rows : List Row) (qs : List (List Str × List Ent)), vs = [.ref h] ∧ HeldAt C CT CS H h b rows qs ∧ ROk 8 rows ∧ qs.length ≤ 4 ∧
  ∀ H' r ts, Same H H' → Tq H' r (ts.map V.ref) → PksAt H' ts (pkS (wR rows) (qs.map (·.1)) qs.length) → Q (.ref r) H'
theorem EndsL.snoc {rows : List Row} {H : Hp} {es : List Addr} {qs : List (List Str × List Ent)} {e : Addr} {q : List Str × List Ent} (x : EndsL rows H es qs) (h : EndsAt H e rows q.1) : EndsL rows H (es ++ [e]) (qs ++ [q]) := by
  refine ⟨by rw [List.length_append, List.length_append, x.1]; rfl, fun i p' q' a c => ?_⟩
  by_cases hi : i < es.length
  · rw [List.getElem?_append_left hi] at a
    rw [List.getElem?_append_left (by rw [← x.1]; exact hi)] at c
    exact x.2 i p' q' a c
  · rw [List.getElem?_append_right (by omega)] at a
    rw [List.getElem?_append_right (by rw [← x.1]; omega)] at c
    rw [x.1] at a
    cases hj : i - qs.length with
    | zero =>
      rw [hj] at a c
      cases a
      cases c
      exact h
    | succ j =>
      rw [hj] at a
      simp at a
theorem EndsL.upd_ne {rows : List Row} {H : Hp} {es : List Addr} {qs : List (List Str × List Ent)} {D : Addr} {o : HO} (x : EndsL rows H es qs) (n : ∀ e ∈ es, e ≠ D) : EndsL rows (upd H D o) es qs := ⟨x.1, fun i e q a b => by
  show (upd H D o) e = _
  rw [L2.upd_ne (n e (mem_of_get a))]
  exact x.2 i e q a b⟩
abbrev s_peaks : Stmt := top 23
abbrev N_peaks : List Str := ["trims", "ends", "found", "index", "trim", "place", "path", "other", "plant"]
theorem sc_peaks : FnScope N_peaks ["trims"] (defScope s_peaks) := ⟨rfl, rfl, rfl, by decide +kernel, rfl, by decide +kernel, by decide +kernel⟩
section
variable {P : Program} {w : World} {K : PySem.W.Frag} {mg : Str → Option Value} {base : Heap} {C CT CS : Addr}
theorem ok_peaks (T : Bm mg) (BT : TrT K CT) (BS : TsT K CS) (c_ends_of : DefOk P w K mg base CX0 1 "ends_of" (spEnds C)) (c_paths_of : DefOk P w K mg base CX0 1 "paths_of" (spPaths C)) (c_peak_plant : DefOk P w K mg base CX0 2 "peak_plant" (spPeakPl C CT CS)) (D : Def0 K mg "peaks" s_peaks) : DefOk P w K mg base CX0 3 "peaks" (spPeaks C CT CS) := by
  refine D.ok sc_peaks (fun vs H Q E h => ?_) (fun _ _ _ _ _ _ us hl => match us, hl with | [_], _ => rfl) (fun f cdv A outer s' H vs Q E' hr h => ?_)
  · obtain ⟨h, b, rows, qs, rfl, _⟩ := h
    rfl
  · obtain ⟨h, b, rows, qs, rfl, hH, R, h4, k⟩ := h
    obtain ⟨dx, tt, z, ps, h1, h2, h3, hB⟩ := id hH
    have lps := h3.1
    refine ⟨_, (pss_cons (ps_setLc (i := 1) (own := [("trim", 4)]) (g := (gName 4)) (tt := tYes) rfl sc_peaks.nd rfl rfl (sw_true rfl rfl rfl (by decide +kernel)) (pi_tup (pe_fld (pv 0) rfl)) (blkOk_by (N := N_peaks) (sc := defScope s_peaks) (by decide +kernel)) (fun _ _ _ _ _ => (pg_name (i := 4) sc_peaks.nd rfl (Or.inl rfl))) (fun _ _ _ _ _ => pts_nil) (fun _ _ _ _ _ => (pe_d c_ends_of (hr.mono (by decide)) pass0 (pa_cons (show PE _ _ (tFld K _ _) from pe_fld (pv 0) rfl) (pa_cons (show PE _ _ (tFld K _ _) from pe_fld (pv 4) rfl) pa_nil)))))
      (pss_cons (ps_set (i := 2) sc_peaks.nd rfl (Or.inl rfl) (pe_lst pa_nil))
      (pss_cons (ps_for PassesOwn.never rfl (pi_enumT (by rfl) T.b_enumerate (pa_cons (pe_fld (pv 0) rfl) pa_nil)) (pg_tup (by rfl) (pgs_cons (pg_name (i := 3) sc_peaks.nd rfl (Or.inl rfl)) (pgs_cons (pg_name (i := 4) sc_peaks.nd rfl (Or.inl rfl)) pgs_nil)))
        (pss_one (ps_for PassesOwn.never rfl (pi_enum (by rfl) T.b_enumerate (pa_cons (pe_d c_paths_of (hr.mono (by decide)) pass0 (pa_cons (pe_fld (pv 0) rfl) (pa_cons (pe_fld (pv 4) rfl) pa_nil))) pa_nil)) (pg_tup (by rfl) (pgs_cons (pg_name (i := 5) sc_peaks.nd rfl (Or.inl rfl)) (pgs_cons (pg_name (i := 6) sc_peaks.nd rfl (Or.inl rfl)) pgs_nil)))
          (pss_cons (ps_if (pt_cmpR op_eq (pe_ix ix_tup (pe_fld (pv 4) rfl) (pv 5) (fun _ _ => rfl)) (pe_cS (by rfl) T.c_HOLE) (nomark _))
            (pss_one ps_continue)
            pss_nil)
          (pss_one (ps_for PassesOwn.never rfl (pi_range1 (by rfl) T.b_range (pa_cons (pe_callB call_len_seq (by rfl) T.b_len boot_len (pa_cons (pe_fld (pv 0) rfl) pa_nil)) pa_nil)) (pg_name (i := 7) sc_peaks.nd rfl (Or.inl rfl))
            (pss_cons (ps_set (i := 8) sc_peaks.nd rfl (Or.inl rfl) (pe_ifExp (PW.pt (pw_and (pt_cmpR (op_eqD hr.units) (pv 6) (pe_tup pa_nil) (nomark _)) (pw_and1 (pt_cmpR op_le (pv 7) (pv 3) (nomark _))))) pe_non (pe_d c_peak_plant (hr.mono (by decide)) pass0 (pa_cons (pv 0) (pa_cons (pv 1) (pa_cons (pv 3) (pa_cons (pv 5) (pa_cons (pv 7) pa_nil))))))))
            (pss_one (ps_if (pt_cmpR op_notN (pv 8) pe_non (nomark _))
              (pss_one (ps_expr (pe_bm PySem.F.plainAttrs_list PySem.F.slot_list_append PySem.F.type_list_append mt_append (pv 2) (pa_cons (pe_tup (pa_cons (pv 8) (pa_cons (pv 3) (pa_cons (pv 6) (pa_cons (pv 7) pa_nil))))) pa_nil))))
              pss_nil)))))))))
      (pss_one (ps_ret (pe_callTy call_tuple_of (by rfl) T.b_tuple (by decide +kernel) (pa_cons (pv 2) pa_nil))))))), ?_⟩
    refine ⟨_, rfl, h, CS, dx, _, _, rfl, h1, BS.cl, BS.nT, ts_trims _ _ _, tt, rfl, ⟨_, SqT.of h2⟩, fun D hD => lc_it (walk_tup (xs := ps.map V.ref)) (fun i H' => Same H H' ∧ ∃ es, H' D = some (.lst (es.map V.ref)) ∧ EndsL rows H' es (qs.take i) ∧ ∀ e ∈ es, e ≠ D)
      ⟨(Same.refl H).upd_new hD, [], upd_same, ⟨rfl, fun i e q a => by simp at a⟩, fun e he => nomatch he⟩ (fun i H' _ ⟨q, _⟩ => SqT.of (q _ _ h2)) ?_ ?_⟩
    · rintro i v H1 H2 hi ⟨s1, es, d1, e1, n1⟩ ⟨rfl, hv⟩
      obtain ⟨t, ht, rfl⟩ := get_map hv
      have hi2 : i < qs.length := by rw [← lps]; exact lt_of_get ht
      obtain ⟨dxi, ti, ui, i1, i2, i3, Oi⟩ := (h3.2 i t qs[i] ht (List.getElem?_eq_getElem hi2)).same s1
      refine ⟨rfl, _, rfl, h, CS, dx, _, _, rfl, s1 _ _ h1, BS.cl, BS.nB, ts_bed _ _ _, _, rfl, t, CT, dxi, _, _, rfl, i1, BT.cl, BT.nS, tr_stump _ _ _, b, ti, rows, qs[i].1, rfl, hB.same s1, R, i2.q, Oi.st.wf, fun H3 e s3 he hE => ?_⟩
      have d3 := s3 _ _ d1
      have ne : e ≠ D := fun q => by rw [q, d1] at he; cases he
      refine ⟨_, d3, ?_, (s1.trans s3).upd_own hD, es ++ [e], by rw [upd_same, List.map_append]; rfl, ?_, ?_⟩
      · rw [List.length_map, e1.1, List.length_take]
        exact lt_line (by omega)
      · have all : ∀ x ∈ es ++ [e], x ≠ D := fun x hx => by
          rcases List.mem_append.mp hx with q | q
          · exact n1 x q
          · rw [List.mem_singleton.mp q]; exact ne
        rw [← take_snoc (List.getElem?_eq_getElem hi2)]
        exact ((e1.same s3).snoc hE).upd_ne all
      · intro x hx
        rcases List.mem_append.mp hx with q | q
        · exact n1 x q
        · rw [List.mem_singleton.mp q]; exact ne
    have lpm : (ps.map V.ref).length = qs.length := by rw [List.length_map, lps]
    rintro Hm ⟨sm, es, dm, em, nm⟩
    rw [List.length_map, lps, List.take_length] at em
    refine ⟨le_line (show 0 ≤ 100000 by decide), fun F hF => ?_⟩
    have hF0 : H F = none := sm.free hF
    have f1 : (upd Hm F (.lst [])) F = some (.lst (([] : List Addr).map V.ref)) := upd_same
    have sF : Same Hm (upd Hm F (.lst [])) := (Same.refl Hm).upd_new hF
    generalize upd Hm F (.lst []) = H1 at f1 sF
    have hHm := hH.same sm
    have l7 : ∀ s ∈ qs.map (·.1), s.length ≤ 7 := fun s hs => by
      obtain ⟨q, hq, rfl⟩ := List.mem_map.mp hs
      obtain ⟨i, hi, rfl⟩ := List.mem_iff_getElem.mp hq
      have hpi : i < ps.length := by rw [lps]; exact hi
      obtain ⟨dxi, ti, ui, i1, i2, i3, Oi⟩ := h3.2 i ps[i] qs[i] (List.getElem?_eq_getElem hpi) (List.getElem?_eq_getElem hi)
      exact Oi.l7
    have lss : (qs.map (·.1)).length ≤ 4 := by rw [List.length_map]; exact h4
    have s01 := sm.trans sF
    refine ⟨_, rfl, h, CS, dx, _, _, rfl, s01 _ _ h1, BS.cl, BS.nT, ts_trims _ _ _, tt, _, rfl, SqT.of (s01 _ _ h2), for_it (walk_enumT (xs := ps.map V.ref)) (fun i σ H' => ∃ (x0 x1 x2 x3 x4 x5 : Option V) (ts : List Addr), σ = [some (.ref h), some (.ref D), some (.ref F), x0, x1, x2, x3, x4, x5] ∧ Same Hm H' ∧ H' F = some (.lst (ts.map V.ref)) ∧ PksAt H' ts (pkS (wR rows) (qs.map (·.1)) i))
      ⟨none, none, none, none, none, none, [], rfl, sF, f1, PksAt.nil⟩ (fun i σ H' _ ⟨_, _, _, _, _, _, _, _, q, _⟩ => SqT.of ((sm.trans q) _ _ h2)) ?_ ?_⟩
    · rintro i v σ H2 H3 hi ⟨x0, x1, x2, x3, x4, x5, ts, rfl, s2, f2, p2⟩ ⟨P1, v1, v2, rfl, hP1, rfl, e1, e2⟩
      have hip : i < ps.length := by rw [List.length_map] at hi; exact hi
      have hiq : i < qs.length := by rw [← lps]; exact hip
      cases e1
      have e2' : (ps.map V.ref)[i]? = some v2 := e2
      rw [List.getElem?_map, List.getElem?_eq_getElem hip] at e2'
      cases e2'
      have s23 := (Same.refl H2).upd_new (o := .tup [.int ((i : Nat) : Int), .ref ps[i]]) hP1
      have s3 := s2.trans s23
      have nP : F ≠ P1 := ne_of_none f2 hP1
      have f3 := s23 _ _ f2
      have p3 := p2.keep (TQ.of_same s23)
      have hP3 : (upd H2 P1 (.tup [.int ((i : Nat) : Int), .ref ps[i]])) P1 = some (.tup [.int ((i : Nat) : Int), .ref ps[i]]) := upd_same
      refine ⟨P1, _, rfl, SqT.of upd_same, rfl, _, _, rfl, _, _, rfl, rfl, ?_⟩
      generalize upd H2 P1 (.tup [.int ((i : Nat) : Int), .ref ps[i]]) = H3 at s23 s3 f3 p3 hP3
      have sm3 := sm.trans s3
      obtain ⟨dxi, ti, ui, i1, i2, i3, Oi⟩ := (h3.2 i ps[i] qs[i] (List.getElem?_eq_getElem hip) (List.getElem?_eq_getElem hiq))
      refine ⟨_, rfl, h, CS, dx, _, _, rfl, sm3 _ _ h1, BS.cl, BS.nB, ts_bed _ _ _, _, rfl, ps[i], CT, dxi, _, _, rfl, sm3 _ _ i1, BT.cl, BT.nS, tr_stump _ _ _, b, ti, rows, qs[i].1, rfl, hB.same sm3, R, (i2.same sm3).q, Oi.st.wf, fun Hq q sq hqn ⟨us, q1, q2⟩ => ?_⟩
      have fq := sq _ _ f3
      have nqF : q ≠ F := fun e => by rw [e, f3] at hqn; cases hqn
      have esi : (qs.map (·.1)).getD i [] = qs[i].1 := ss_at hiq
      have lus : us.length = qs[i].1.length := by rw [q2.1, List.length_map, List.length_range]
      refine ⟨q, _, rfl, SqL.of q1, for_it (walk_enum (xs := us.map V.ref)) (fun p σ H' => ∃ (x2 x3 x4 x5 : Option V) (ts : List Addr), σ = [some (.ref h), some (.ref D), some (.ref F), some (.int (i : Nat)), some (.ref ps[i]), x2, x3, x4, x5] ∧ Same Hm H' ∧ Kp F Hq H' ∧ H' F = some (.lst (ts.map V.ref)) ∧ PksAt H' ts (pkS (wR rows) (qs.map (·.1)) i ++ pkI (wR rows) (qs.map (·.1)) i p))
        ⟨x2, x3, x4, x5, ts, rfl, s3.trans sq, Kp.refl F Hq, fq, ?_⟩ (fun p σ H' _ ⟨_, _, _, _, _, _, _, q, _⟩ => SqL.of (q _ _ q1 nqF)) ?_ ?_⟩
      · show PksAt Hq ts (_ ++ [])
        rw [List.append_nil]
        exact p3.keep (TQ.of_same sq)
      · rintro p v σ H4 H5 hp ⟨x2, x3, x4, x5, ts, rfl, s4, k4, f4, p4⟩ ⟨P2, w1, w2, rfl, hP2, rfl, g1, g2⟩
        have hpu : p < us.length := by rw [List.length_map] at hp; exact hp
        have hps : p < qs[i].1.length := by rw [← lus]; exact hpu
        cases g1
        have g2' : (us.map V.ref)[p]? = some w2 := g2
        rw [List.getElem?_map, List.getElem?_eq_getElem hpu] at g2'
        cases g2'
        have s45 := (Same.refl H4).upd_new (o := .tup [.int ((p : Nat) : Int), .ref us[p]]) hP2
        have hP5 : (upd H4 P2 (.tup [.int ((p : Nat) : Int), .ref us[p]])) P2 = some (.tup [.int ((p : Nat) : Int), .ref us[p]]) := upd_same
        refine ⟨P2, _, rfl, SqT.of upd_same, rfl, _, _, rfl, _, _, rfl, rfl, ?_⟩
        generalize upd H4 P2 (.tup [.int ((p : Nat) : Int), .ref us[p]]) = H5 at s45 hP5
        have f5 := s45 _ _ f4
        have p5 := p4.keep (TQ.of_same s45)
        have s5 := s4.trans s45
        have k5 := k4.trans (Kp.same s45)
        have sm5 := sm.trans s5
        have esp : ((qs.map (·.1)).getD i []).getD p ("" : Str) = qs[i].1[p] := by rw [esi, getD_at hps]
        have pth5 : Tq H5 us[p] (pV (Mth.pth (wR rows) qs[i].1 p)) := by
          have := q2.2 p us[p] (Mth.pth (wR rows) qs[i].1 p) (List.getElem?_eq_getElem hpu) (by rw [List.getElem?_map, List.getElem?_range hps]; rfl)
          exact (k5.tqL fq) _ _ this
        refine ⟨_, rfl, ps[i], CT, dxi, _, _, rfl, sm5 _ _ i1, BT.cl, BT.nS, tr_stump _ _ _, _, rfl, ti, _, _, _, rfl, rfl, (i2.same sm5).q.sq, str_at hps rfl, rfl, _, rfl, ?_⟩
        by_cases c : qs[i].1[p] = ("*" : Str)
        · refine ifp (decide_eq_true (congrArg V.str c)) ?_
          refine ⟨_, _, _, _, ts, rfl, s5, k5, f5, ?_⟩
          rw [pkI_hole (by rw [esp]; exact c)]
          exact p5
        · refine ifn (fun x => c (V.str.inj (of_decide_eq_true x))) ?_
          have lP : ∀ j, (pkS (wR rows) (qs.map (·.1)) i ++ pkI (wR rows) (qs.map (·.1)) i p ++ pkP (wR rows) (qs.map (·.1)) i p j).length ≤ 112 + 28 + j := fun j => by
            rw [List.length_append, List.length_append]
            have := pkS_len (wR rows) lss l7 i
            have := pkI_len (wR rows) lss i p
            have := pkP_len (wR rows) (qs.map (·.1)) i p j
            have := Oi.l7
            omega
          refine ⟨_, rfl, h, CS, dx, _, _, rfl, sm5 _ _ h1, BS.cl, BS.nT, ts_trims _ _ _, tt, _, rfl, .inr (SqT.of (sm5 _ _ h2)), _, rfl, by omega, by omega, for_range (n := (((ps.map V.ref).length : Nat) : Int).toNat) (fun j σ H' => ∃ (x4 x5 : Option V) (ts : List Addr), σ = [some (.ref h), some (.ref D), some (.ref F), some (.int (i : Nat)), some (.ref ps[i]), some (.int (p : Nat)), some (.ref us[p]), x4, x5] ∧ Same Hm H' ∧ Kp F H5 H' ∧ H' F = some (.lst (ts.map V.ref)) ∧ PksAt H' ts (pkS (wR rows) (qs.map (·.1)) i ++ pkI (wR rows) (qs.map (·.1)) i p ++ pkP (wR rows) (qs.map (·.1)) i p j))
            ⟨x4, x5, ts, rfl, s5, Kp.refl F H5, f5, ?_⟩ ?_ ?_⟩
          · show PksAt H5 ts (_ ++ [])
            rw [List.append_nil]
            exact p5
          · rintro j σ H6 hj ⟨x4, x5, ts, rfl, s6, k6, f6, p6⟩
            have hjq : j < qs.length := by rw [Int.toNat_natCast, List.length_map, lps] at hj; exact hj
            have esj : (qs.map (·.1)).getD j [] = qs[j].1 := ss_at hjq
            have pth6 : Tq H6 us[p] (pV (Mth.pth (wR rows) qs[i].1 p)) := (k6.tqL f5) _ _ pth5
            have pe := Mth.pth_nil Oi.st.f hps
            have sm6 := sm.trans s6
            have l6 := lP j
            have no : ¬ (0 < p ∨ i < j) → ∀ H', H6 = H' ∨ True → PksAt H' ts (pkS (wR rows) (qs.map (·.1)) i ++ pkI (wR rows) (qs.map (·.1)) i p ++ pkP (wR rows) (qs.map (·.1)) i p j) → PksAt H' ts (pkS (wR rows) (qs.map (·.1)) i ++ pkI (wR rows) (qs.map (·.1)) i p ++ pkP (wR rows) (qs.map (·.1)) i p (j + 1)) := fun hn H' _ q => by
              rw [pkP_succ, pkJ_no hn, List.append_nil]
              exact q
            refine ⟨_, rfl, le_line (show 0 ≤ 100000 by decide), fun t ht => ?_⟩
            have s67 := (Same.refl H6).upd_new (o := .tup []) ht
            have t7 : (upd H6 t (.tup [])) t = some (.tup []) := upd_same
            generalize upd H6 t (.tup []) = H7 at s67 t7
            have pth7 := pth6.same s67
            refine ⟨_, _, dp_pth pth7, .tup (SqT.of t7) .nil, shp_tints _, shp_tints [], _, rfl, ?_⟩
            have s7m := s6.trans s67
            have k7 : Kp F H5 H7 := k6.trans (Kp.same s67)
            have f7 := s67 _ _ f6
            have p7 := p6.keep (TQ.of_same s67)
            have sm7 := sm.trans s7m
            have eH7 : Kp F H1 H7 → True := fun _ => trivial
            have dm7 : H7 D = some (.lst (es.map V.ref)) := s7m _ _ dm
            have call : ∀ (H8 : Hp) (v : V), Same H7 H8 → (0 < p ∨ i < j) → PlV rows H8 v (unF (wR rows) (Mth.cut (wR rows) qs[i].1 p) qs[j].1) qs[i].1 p →
                (v = .non ∧ PksAt H8 ts (pkS (wR rows) (qs.map (·.1)) i ++ pkI (wR rows) (qs.map (·.1)) i p ++ pkP (wR rows) (qs.map (·.1)) i p (j + 1))) ∨
                (∃ a u, v = .ref a ∧ Tq H8 a ((rowP (wR rows) qs[i].1 p u).map eV) ∧ pkP (wR rows) (qs.map (·.1)) i p (j + 1) = pkP (wR rows) (qs.map (·.1)) i p j ++ [(rowP (wR rows) qs[i].1 p u, i, Mth.pth (wR rows) qs[i].1 p, j)]) := fun H8 v s8 hc hv => by
              cases hu : unF (wR rows) (Mth.cut (wR rows) qs[i].1 p) qs[j].1 with
              | none =>
                rw [hu] at hv
                have hv : v = .non := hv
                refine .inl ⟨hv, ?_⟩
                rw [pkP_succ, pkJ_none (by rw [esi, esj]; exact hu), List.append_nil]
                exact p7.keep (TQ.of_same s8)
              | some u =>
                rw [hu] at hv
                obtain ⟨a, e, q⟩ := hv
                refine .inr ⟨a, u, e, q, ?_⟩
                rw [pkP_succ, pkJ_some hc (by rw [esi, esj]; exact hu), esi]
            have pd : PyData.eqv (pthD (Mth.pth (wR rows) qs[i].1 p)) (.tuple []) = decide (p = 0) := by
              unfold pthD
              rw [eqvT]
              by_cases c0 : p = 0
              · rw [pe.mpr c0, decide_eq_true c0]
                rfl
              · rw [decide_eq_false c0]
                cases hh : Mth.pth (wR rows) qs[i].1 p with
                | nil => exact absurd (pe.mp hh) c0
                | cons _ _ => rfl
            rw [pd]
            refine ite2 (fun e1 => ?_) (fun e1 => ?_)
            · have p0 := of_decide_eq_true e1
              refine ⟨_, rfl, _, rfl, _, _, rfl, rfl, _, rfl, ite2 (fun e2 => ?_) (fun e2 => ?_)⟩
              · have e2 := of_decide_eq_true e2
                refine ⟨_, rfl, rfl, _, rfl, ifn (by decide) ⟨_, _, ts, rfl, s7m, k7, f7, ?_⟩⟩
                exact no (by omega) H7 (.inr trivial) p7
              · have e2 : ¬ (0 + ((j : Nat) : Int) ≤ (i : Nat)) := fun q => e2 (decide_eq_true q)
                have hc : 0 < p ∨ i < j := by omega
                refine ⟨_, rfl, _, rfl, _, rfl, _, rfl, _, rfl, h, D, b, rows, qs, es, i, p, j, hiq, hjq, by rw [Int.zero_add], hH.same sm7, R, dm7, em.same s7m, hps, fun H8 v s8 hv => ?_⟩
                rcases call H8 v s8 hc hv with ⟨rfl, q⟩ | ⟨a, u, rfl, z8, eP⟩
                · exact ⟨_, rfl, rfl, _, rfl, ifn (by decide) ⟨_, _, ts, rfl, s7m.trans s8, k7.trans (Kp.same s8), s8 _ _ f7, q⟩⟩
                · refine ⟨_, rfl, rfl, _, rfl, ifp (by simp) ?_⟩
                  refine ⟨_, rfl, .inl ⟨rfl, _, SqL.of (s8 _ _ f7)⟩, _, rfl, _, rfl, _, rfl, _, rfl, le_line (show 4 ≤ 100000 by decide), fun t9 ht9 => ?_⟩
                  have s89 := (Same.refl H8).upd_new (o := .tup [.ref a, .int ((i : Nat) : Int), .ref us[p], .int (0 + ((j : Nat) : Int))]) ht9
                  have y9 : (upd H8 t9 (.tup [.ref a, .int ((i : Nat) : Int), .ref us[p], .int (0 + ((j : Nat) : Int))])) t9 = some (.tup [.ref a, .int ((i : Nat) : Int), .ref us[p], .int (0 + ((j : Nat) : Int))]) := upd_same
                  generalize upd H8 t9 (.tup [.ref a, .int ((i : Nat) : Int), .ref us[p], .int (0 + ((j : Nat) : Int))]) = H9 at s89 y9
                  rw [Int.zero_add] at y9
                  have s79 := s8.trans s89
                  have f9 := s79 _ _ f7
                  have p9 := p7.keep (TQ.of_same s79)
                  have tq := TQ.lst (o := .lst (ts.map V.ref ++ [V.ref t9])) f9
                  refine ⟨F, _, _, rfl, rfl, f9, lt_line (by rw [List.length_map, p9.1]; omega), ?_⟩
                  refine ⟨_, _, ts ++ [t9], rfl, (s7m.trans s79).upd_own hF, (k7.trans (Kp.same s79)).upd, by rw [upd_same, List.map_append]; rfl, ?_⟩
                  rw [eP, ← List.append_assoc]
                  exact (p9.keep tq).snoc ⟨a, us[p], tq _ _ (.of y9), tq _ _ (z8.same s89), tq _ _ (pth7.same s79)⟩
            · have p0 : ¬ p = 0 := fun q => e1 (decide_eq_true q)
              have hc : 0 < p ∨ i < j := by omega
              refine ifn (by decide) ?_
              refine ⟨_, rfl, _, rfl, _, rfl, _, rfl, _, rfl, h, D, b, rows, qs, es, i, p, j, hiq, hjq, by rw [Int.zero_add], hH.same sm7, R, dm7, em.same s7m, hps, fun H8 v s8 hv => ?_⟩
              rcases call H8 v s8 hc hv with ⟨rfl, q⟩ | ⟨a, u, rfl, z8, eP⟩
              · exact ⟨_, rfl, rfl, _, rfl, ifn (by decide) ⟨_, _, ts, rfl, s7m.trans s8, k7.trans (Kp.same s8), s8 _ _ f7, q⟩⟩
              · refine ⟨_, rfl, rfl, _, rfl, ifp (by simp) ?_⟩
                refine ⟨_, rfl, .inl ⟨rfl, _, SqL.of (s8 _ _ f7)⟩, _, rfl, _, rfl, _, rfl, _, rfl, le_line (show 4 ≤ 100000 by decide), fun t9 ht9 => ?_⟩
                have s89 := (Same.refl H8).upd_new (o := .tup [.ref a, .int ((i : Nat) : Int), .ref us[p], .int (0 + ((j : Nat) : Int))]) ht9
                have y9 : (upd H8 t9 (.tup [.ref a, .int ((i : Nat) : Int), .ref us[p], .int (0 + ((j : Nat) : Int))])) t9 = some (.tup [.ref a, .int ((i : Nat) : Int), .ref us[p], .int (0 + ((j : Nat) : Int))]) := upd_same
                generalize upd H8 t9 (.tup [.ref a, .int ((i : Nat) : Int), .ref us[p], .int (0 + ((j : Nat) : Int))]) = H9 at s89 y9
                rw [Int.zero_add] at y9
                have s79 := s8.trans s89
                have f9 := s79 _ _ f7
                have p9 := p7.keep (TQ.of_same s79)
                have tq := TQ.lst (o := .lst (ts.map V.ref ++ [V.ref t9])) f9
                refine ⟨F, _, _, rfl, rfl, f9, lt_line (by rw [List.length_map, p9.1]; omega), ?_⟩
                refine ⟨_, _, ts ++ [t9], rfl, (s7m.trans s79).upd_own hF, (k7.trans (Kp.same s79)).upd, by rw [upd_same, List.map_append]; rfl, ?_⟩
                rw [eP, ← List.append_assoc]
                exact (p9.keep tq).snoc ⟨a, us[p], tq _ _ (.of y9), tq _ _ (z8.same s89), tq _ _ (pth7.same s79)⟩
          · rintro σ H6 ⟨x4, x5, ts, rfl, s6, k6, f6, p6⟩
            rw [Int.toNat_natCast, List.length_map, lps, ← List.length_map (f := fun q : List Str × List Ent => q.1), List.append_assoc, ← pkI_knot (by rw [esp]; exact c)] at p6
            exact ⟨_, _, _, _, ts, rfl, s6, k5.trans k6, f6, p6⟩
      · rintro σ H4 ⟨x2, x3, x4, x5, ts, rfl, s4, k4, f4, p4⟩
        rw [List.length_map, lus, ← esi, ← pkS_succ] at p4
        exact ⟨_, _, _, _, _, _, ts, rfl, s4, f4, p4⟩
    · rintro σ H2 ⟨x0, x1, x2, x3, x4, x5, ts, rfl, s2, f2, p2⟩
      rw [List.length_map, lps] at p2
      refine ⟨_, rfl, F, _, rfl, .inl ⟨SqL.of f2, fun r hr => ?_⟩⟩
      exact k _ r ts ((sm.trans s2).upd_new hr) (.of upd_same) (p2.keep (TQ.new hr))
end
end Sh
end
section
set_option Elab.async false
set_option linter.all false
set_option maxRecDepth 100000
set_option maxHeartbeats 2000000
namespace Sh
open PySem PySem.Spec PyProof.Rows L2
open C8 (pss_cut tCut)
open Evl (ixN_nat)
def spPeaksM : Sp := fun vs H Q _ => ∃ (ar M : Addr) (rows : List Row) (ps : List Addr) (prs : List (List Str × List Ent)), vs = [.ref ar, .ref M] ∧ H ar = some (.dK (wL rows)) ∧ ROk 8 rows ∧ H M = some (.lst (ps.map V.ref)) ∧ MdAt rows H ps prs ∧ prs.length ≤ 4 ∧
  ∀ H' r ts, Same H H' → H' r = some (.lst (ts.map V.ref)) → PksAt H' ts (pkS (wR rows) (prs.map (·.1)) prs.length) → Q (.ref r) H'
abbrev s_law_peaks : Stmt := top 61
abbrev N_law_peaks : List Str := ["arity", "made", "found", "i", "stump", "stops", "paths", "at", "j", "met", "row"]
theorem sc_law_peaks : FnScope N_law_peaks ["arity", "made"] (defScope s_law_peaks) := ⟨rfl, rfl, rfl, by decide +kernel, rfl, by decide +kernel, by decide +kernel⟩
section
variable {P : Program} {w : World} {K : PySem.W.Frag} {mg : Str → Option Value} {base : Heap} {C CT CS : Addr}
theorem ok_peaksM (T : Bm mg) (c_law_stops : DefOk P w K mg base CX0 1 "_law_stops" spStops) (c_law_paths : DefOk P w K mg base CX0 1 "_law_paths" spPathsM) (c_law_union : DefOk P w K mg base CX0 2 "_law_union" spUnionM) (c_law_tagged : DefOk P w K mg base CX0 1 "_law_tagged" (spTags fun l H t => Tq H t (sV l))) (D : Def0 K mg "_law_peaks" s_law_peaks) : DefOk P w K mg base CX0 3 "_law_peaks" spPeaksM := by
  refine D.ok sc_law_peaks (fun vs H Q E h => ?_) (fun _ _ _ _ _ _ us hl => match us, hl with | [_, _], _ => rfl) (fun f cdv A outer s' H vs Q E' hr h => ?_)
  · obtain ⟨ar, M, rows, ps, prs, rfl, _⟩ := h
    rfl
  · obtain ⟨ar, M, rows, ps, prs, rfl, ha, R, hM, hP, h4, k⟩ := h
    have lps := hP.1
    have lpm : (ps.map V.ref).length = prs.length := by rw [List.length_map, lps]
    refine ⟨_, (pss_cons (ps_set (i := 2) sc_law_peaks.nd rfl (Or.inl rfl) (pe_lst pa_nil))
      (pss_cons (ps_for PassesOwn.never rfl (pi_range1 (by rfl) T.b_range (pa_cons (pe_callB call_len_seq (by rfl) T.b_len boot_len (pa_cons (pv 1) pa_nil)) pa_nil)) (pg_name (i := 3) sc_law_peaks.nd rfl (Or.inl rfl))
        (pss_cons (ps_set (i := 4) sc_law_peaks.nd rfl (Or.inl rfl) (pe_ix ix_tup (pe_ix ix_list (pv 1) (pv 3) (fun _ _ => rfl)) pe_int (fun _ _ => rfl)))
        (pss_cons (ps_set (i := 5) sc_law_peaks.nd rfl (Or.inl rfl) (pe_d c_law_stops (hr.mono (by decide)) pass0 (pa_cons (pv 0) (pa_cons (pv 4) pa_nil))))
        (pss_cons (ps_set (i := 6) sc_law_peaks.nd rfl (Or.inl rfl) (pe_d c_law_paths (hr.mono (by decide)) pass0 (pa_cons (pv 0) (pa_cons (pv 4) pa_nil))))
        (pss_one (ps_for PassesOwn.never rfl (pi_range1 (by rfl) T.b_range (pa_cons (pe_callB call_len_seq (by rfl) T.b_len boot_len (pa_cons (pv 4) pa_nil)) pa_nil)) (pg_name (i := 7) sc_law_peaks.nd rfl (Or.inl rfl))
          (pss_one (ps_if (pt_cmpR op_ne (pe_ix ix_tup (pv 4) (pv 7) (fun _ _ => rfl)) pe_str (nomark _))
            (pss_one (ps_for PassesOwn.never rfl (pi_range1 (by rfl) T.b_range (pa_cons (pe_callB call_len_seq (by rfl) T.b_len boot_len (pa_cons (pv 1) pa_nil)) pa_nil)) (pg_name (i := 8) sc_law_peaks.nd rfl (Or.inl rfl))
              (pss_one (ps_if (PW.pt (pw_or (pt_cmpR op_gt (pv 7) pe_int (nomark _)) (pw_or1 (pt_cmpR op_lt (pv 3) (pv 8) (nomark _)))))
                (pss_cons (ps_set (i := 9) sc_law_peaks.nd rfl (Or.inl rfl) (pe_d c_law_union (hr.mono (by decide)) pass0 (pa_cons (pv 0) (pa_cons (pe_slice sl_tupA (pv 4) (po_some (pv 7)) (po_some (pe_ix ix_list (pv 5) (pv 7) (fun _ _ => rfl)))) (pa_cons (pe_ix ix_tup (pe_ix ix_list (pv 1) (pv 8) (fun _ _ => rfl)) pe_int (fun _ _ => rfl)) pa_nil)))))
                (pss_one (ps_if (pt_cmpR op_notN (pv 9) pe_non (nomark _))
                  (pss_cons (ps_set (i := 10) sc_law_peaks.nd rfl (Or.inl rfl) (pe_d c_law_tagged (hr.mono (by decide)) pass0 (pa_cons (pe_op op_catA (pe_op op_catA (pe_slice sl_tupA (pv 4) po_none (po_some (pv 7))) (pv 9)) (pe_slice sl_tupA (pv 4) (po_some (pe_ix ix_list (pv 5) (pv 7) (fun _ _ => rfl))) po_none)) pa_nil)))
                  (pss_one (ps_expr (pe_bm PySem.F.plainAttrs_list PySem.F.slot_list_append PySem.F.type_list_append mt_append (pv 2) (pa_cons (pe_tup (pa_cons (pv 10) (pa_cons (pv 3) (pa_cons (pe_ix ix_list (pv 6) (pv 7) (fun _ _ => rfl)) (pa_cons (pv 8) pa_nil))))) pa_nil)))))
                  pss_nil)))
                pss_nil))))
            pss_nil))))))))
      (pss_one (ps_ret (pv 2))))), ?_⟩
    refine ⟨le_line (show 0 ≤ 100000 by decide), fun F hF => ?_⟩
    have f1 : (upd H F (.lst [])) F = some (.lst (([] : List Addr).map V.ref)) := upd_same
    have sF : Same H (upd H F (.lst [])) := (Same.refl H).upd_new hF
    generalize upd H F (.lst []) = H1 at f1 sF
    have ok := hP.ok
    have l7 : ∀ s ∈ prs.map (·.1), s.length ≤ 7 := fun s hs => by
      obtain ⟨q, hq, rfl⟩ := List.mem_map.mp hs
      exact (ok q hq).l7
    have lss : (prs.map (·.1)).length ≤ 4 := by rw [List.length_map]; exact h4
    refine ⟨_, rfl, M, _, rfl, .inl (SqL.of (sF _ _ hM)), _, rfl, by omega, by omega, for_range (n := (((ps.map V.ref).length : Nat) : Int).toNat) (fun i σ H' => ∃ (x0 x1 x2 x3 x4 x5 x6 x7 : Option V) (ts : List Addr), σ = [some (.ref ar), some (.ref M), some (.ref F), x0, x1, x2, x3, x4, x5, x6, x7] ∧ Same H H' ∧ H' F = some (.lst (ts.map V.ref)) ∧ PksAt H' ts (pkS (wR rows) (prs.map (·.1)) i))
      ⟨none, none, none, none, none, none, none, none, [], rfl, sF, f1, PksAt.nil⟩ ?_ ?_⟩
    · rintro i σ H2 hi ⟨x0, x1, x2, x3, x4, x5, x6, x7, ts, rfl, s2, f2, p2⟩
      rw [Int.toNat_natCast, lpm] at hi
      have hip : i < ps.length := by rw [lps]; exact hi
      have ai : (ps.map V.ref)[i]? = some (.ref ps[i]) := by rw [List.getElem?_map, List.getElem?_eq_getElem hip]; rfl
      obtain ⟨ti, ui, i1, i2, i3, Oi⟩ := hP.2 i ps[i] prs[i] (List.getElem?_eq_getElem hip) (List.getElem?_eq_getElem hi)
      have lsi : (sV prs[i].1).length = prs[i].1.length := by rw [sV, List.length_map]
      have Oi7 := Oi.l7
      refine ⟨_, rfl, _, rfl, M, _, _, _, rfl, rfl, SqL.of (s2 _ _ hM), at_ofG (j := i) (by omega) ai, ps[i], _, _, _, rfl, rfl, (i1.same s2).q.sq, atI_nat (j := 0) rfl, ?_⟩
      refine ⟨_, rfl, _, rfl, ar, ti, rows, prs[i].1, rfl, s2 _ _ ha, R, (i2.same s2).q, Oi.st.wf, fun H3 d s3 hdn hd => ?_⟩
      have s03 := s2.trans s3
      refine ⟨_, rfl, _, rfl, ar, ti, rows, prs[i].1, rfl, s03 _ _ ha, R, (i2.same s03).q, Oi.st.wf, fun H4 q s4 hqn ⟨us, q1, q2⟩ => ?_⟩
      have s04 := s03.trans s4
      have s24 := s3.trans s4
      have f4 := s24 _ _ f2
      have p4 := p2.keep (TQ.of_same s24)
      have d4 : H4 d = some _ := s4 _ _ hd
      have ndF : d ≠ F := fun e => by rw [e, f2] at hdn; cases hdn
      have nqF : q ≠ F := fun e => by rw [e, s3 _ _ f2] at hqn; cases hqn
      have esi : (prs.map (·.1)).getD i [] = prs[i].1 := ss_at hi
      have lus : us.length = prs[i].1.length := by rw [q2.1, List.length_map, List.length_range]
      refine ⟨_, rfl, ti, _, rfl, .inr (i2.same s04).q.sq, _, rfl, by omega, by omega, for_range (n := (((sV prs[i].1).length : Nat) : Int).toNat) (fun p σ H' => ∃ (x4 x5 x6 x7 : Option V) (ts : List Addr), σ = [some (.ref ar), some (.ref M), some (.ref F), some (.int (0 + (i : Nat))), some (.ref ti), some (.ref d), some (.ref q), x4, x5, x6, x7] ∧ Same H H' ∧ Kp F H4 H' ∧ H' F = some (.lst (ts.map V.ref)) ∧ PksAt H' ts (pkS (wR rows) (prs.map (·.1)) i ++ pkI (wR rows) (prs.map (·.1)) i p))
        ⟨x4, x5, x6, x7, ts, rfl, s04, Kp.refl F H4, f4, ?_⟩ ?_ ?_⟩
      · show PksAt H4 ts (_ ++ [])
        rw [List.append_nil]
        exact p4
      · rintro p σ H5 hp ⟨x4, x5, x6, x7, ts, rfl, s5, k5, f5, p5⟩
        have hps : p < prs[i].1.length := by rw [Int.toNat_natCast, lsi] at hp; exact hp
        have hpu : p < us.length := by rw [lus]; exact hps
        have esp : ((prs.map (·.1)).getD i []).getD p ("" : Str) = prs[i].1[p] := by rw [esi, getD_at hps]
        have pth5 : Tq H5 us[p] (pV (Mth.pth (wR rows) prs[i].1 p)) := by
          have := q2.2 p us[p] (Mth.pth (wR rows) prs[i].1 p) (List.getElem?_eq_getElem hpu) (by rw [List.getElem?_map, List.getElem?_range hps]; rfl)
          exact (k5.tqL f4) _ _ this
        refine ⟨_, rfl, _, rfl, ti, _, _, _, rfl, rfl, (i2.same s5).q.sq, str_at hps (by omega), rfl, _, rfl, ?_⟩
        by_cases c : prs[i].1[p] = ("*" : Str)
        · refine ifn (by rw [c]; simp) ?_
          refine ⟨_, _, _, _, ts, rfl, s5, k5, f5, ?_⟩
          rw [pkI_hole (by rw [esp]; exact c)]
          exact p5
        · refine ifp (by simp; exact c) ?_
          have lP : ∀ j, (pkS (wR rows) (prs.map (·.1)) i ++ pkI (wR rows) (prs.map (·.1)) i p ++ pkP (wR rows) (prs.map (·.1)) i p j).length ≤ 112 + 28 + j := fun j => by
            rw [List.length_append, List.length_append]
            have := pkS_len (wR rows) lss l7 i
            have := pkI_len (wR rows) lss i p
            have := pkP_len (wR rows) (prs.map (·.1)) i p j
            omega
          refine ⟨_, rfl, M, _, rfl, .inl (SqL.of (s5 _ _ hM)), _, rfl, by omega, by omega, for_range (n := (((ps.map V.ref).length : Nat) : Int).toNat) (fun j σ H' => ∃ (x5 x6 x7 : Option V) (ts : List Addr), σ = [some (.ref ar), some (.ref M), some (.ref F), some (.int (0 + (i : Nat))), some (.ref ti), some (.ref d), some (.ref q), some (.int (0 + (p : Nat))), x5, x6, x7] ∧ Same H H' ∧ Kp F H5 H' ∧ H' F = some (.lst (ts.map V.ref)) ∧ PksAt H' ts (pkS (wR rows) (prs.map (·.1)) i ++ pkI (wR rows) (prs.map (·.1)) i p ++ pkP (wR rows) (prs.map (·.1)) i p j))
            ⟨x5, x6, x7, ts, rfl, s5, Kp.refl F H5, f5, ?_⟩ ?_ ?_⟩
          · show PksAt H5 ts (_ ++ [])
            rw [List.append_nil]
            exact p5
          · rintro j σ H6 hj ⟨x5, x6, x7, ts, rfl, s6, k6, f6, p6⟩
            rw [Int.toNat_natCast, lpm] at hj
            have hjp : j < ps.length := by rw [lps]; exact hj
            have aj : (ps.map V.ref)[j]? = some (.ref ps[j]) := by rw [List.getElem?_map, List.getElem?_eq_getElem hjp]; rfl
            obtain ⟨tj, uj, j1, j2, j3, Oj⟩ := hP.2 j ps[j] prs[j] (List.getElem?_eq_getElem hjp) (List.getElem?_eq_getElem hj)
            have esj : (prs.map (·.1)).getD j [] = prs[j].1 := ss_at hj
            have Oj7 := Oj.l7
            have pth6 : Tq H6 us[p] (pV (Mth.pth (wR rows) prs[i].1 p)) := (k6.tqL f5) _ _ pth5
            have k46 := k5.trans k6
            have d6 := k46 _ _ d4 ndF
            have q6 := k46 _ _ q1 nqF
            have l6 := lP j
            have n0 := Mth.nxs_gt (wR rows) 0 hps
            have n1 := Mth.nxs_le (wR rows) prs[i].1 p 1
            have g := Mth.ends_get (wR rows) hps
            have lc := Mth.cut_len (wR rows) prs[i].1 p
            have body : (0 < p ∨ i < j) → True := fun _ => trivial
            refine ⟨_, rfl, _, _, rfl, rfl, _, rfl, ite2 (fun e1 => ?_) (fun e1 => ?_)⟩
            · have hc : 0 < p ∨ i < j := .inl (by have := of_decide_eq_true e1; omega)
              refine ⟨_, rfl, _, rfl, _, rfl, _, rfl, _, rfl, _, rfl, d, _, _, _, rfl, rfl, SqL.of d6, int_at g (by omega), _, rfl, ?_⟩
              rw [show (0 : Int) + ((p : Nat) : Int) = ((p : Nat) : Int) by omega]
              refine slA_of (i2.same s6).q (by rw [lsi]; exact n1) (Nat.le_of_lt n0) (fun c7 H7 s7 hc7 => ?_)
              have ec : ((sV prs[i].1).drop p).take (Mth.nxs (wR rows) prs[i].1 p 1 - p) = sV (Mth.cut (wR rows) prs[i].1 p) := by
                unfold sV Mth.cut
                rw [List.map_take, List.map_drop]
              rw [ec] at hc7
              have s07 := s6.trans s7
              refine ⟨_, rfl, _, rfl, M, _, _, _, rfl, rfl, SqL.of (s07 _ _ hM), at_ofG (j := j) (by omega) aj, ps[j], _, _, _, rfl, rfl, (j1.same s07).q.sq, atI_nat (j := 0) rfl, ar, c7, tj, rows, Mth.cut (wR rows) prs[i].1 p, prs[j].1, rfl, s07 _ _ ha, R, hc7, ⟨Mth.cut_forest (wR rows) Oi.st.f hps, by omega⟩, (j2.same s07).q, Oj.st.wf, fun H8 v o s8 hU hV => ?_⟩
              have eu := unF_eq hU
              have s68 := s7.trans s8
              have s08 := s07.trans s8
              have f8 := s68 _ _ f6
              cases o with
              | none =>
                have hV : v = .non := hV
                subst hV
                refine ⟨_, rfl, rfl, _, rfl, ifn (by decide) ⟨_, _, _, ts, rfl, s08, k6.trans (Kp.same s68), f8, ?_⟩⟩
                rw [pkP_succ, pkJ_none (by rw [esi, esj]; exact eu), List.append_nil]
                exact p6.keep (TQ.of_same s68)
              | some u =>
                obtain ⟨a, rfl, hu⟩ := hV
                have ul := unF_le eu
                have lu : (sV u).length = u.length := by rw [sV, List.length_map]
                refine ⟨_, rfl, rfl, _, rfl, ifp (by simp) ?_⟩
                refine ⟨_, rfl, _, rfl, _, rfl, ?_⟩
                refine sl_to (j := p) (i2.same s08).q (by rw [lsi]; omega) fun r9 H9 s9 z9 => ?_
                refine ⟨_, rfl, catA_q z9 (hu.same s9) (by rw [List.length_take, lsi, lu]; omega) fun r10 H10 s10 z10 => ?_⟩
                have s810 := s9.trans s10
                have s610 := s68.trans s810
                refine ⟨_, rfl, _, rfl, _, rfl, d, _, _, _, rfl, rfl, SqL.of (s610 _ _ d6), int_at g (by omega), _, rfl, ?_⟩
                unfold tNoPart
                refine sl_from (i := Mth.nxs (wR rows) prs[i].1 p 1) (i2.same (s08.trans s810)).q (by rw [lsi]; exact n1) fun r11 H11 s11 z11 => ?_
                refine catA_q (z10.same s11) z11 (by rw [List.length_append, List.length_take, List.length_drop, lsi, lu]; omega) fun r12 H12 s12 z12 => ?_
                have e2 : (sV prs[i].1).take p ++ sV u ++ (sV prs[i].1).drop (Mth.nxs (wR rows) prs[i].1 p 1) = sV (prs[i].1.take p ++ u ++ prs[i].1.drop (Mth.nxs (wR rows) prs[i].1 p 1)) := by
                  unfold sV
                  rw [List.map_append, List.map_append, List.map_take, List.map_drop]
                rw [e2] at z12
                have s612 := (s610.trans s11).trans s12
                refine ⟨r12, _, rfl, z12, ?_, fun H13 r13 s13 z13 => ?_⟩
                · simp only [List.length_append, List.length_take, List.length_drop]
                  omega
                have s613 := s612.trans s13
                refine ⟨_, rfl, .inl ⟨rfl, _, SqL.of (s613 _ _ f6)⟩, _, rfl, _, rfl, _, rfl, _, rfl, q, _, _, _, rfl, rfl, SqL.of (s613 _ _ q6), at_ofG (j := p) (by omega) (by rw [List.getElem?_map, List.getElem?_eq_getElem hpu]; rfl), _, rfl, le_line (show 4 ≤ 100000 by decide), fun t9 ht9 => ?_⟩
                have s89 := (Same.refl H13).upd_new (o := .tup [.ref r13, .int (0 + ((i : Nat) : Int)), .ref us[p], .int (0 + ((j : Nat) : Int))]) ht9
                have y9 : (upd H13 t9 (.tup [.ref r13, .int (0 + ((i : Nat) : Int)), .ref us[p], .int (0 + ((j : Nat) : Int))])) t9 = some (.tup [.ref r13, .int (0 + ((i : Nat) : Int)), .ref us[p], .int (0 + ((j : Nat) : Int))]) := upd_same
                generalize upd H13 t9 (.tup [.ref r13, .int (0 + ((i : Nat) : Int)), .ref us[p], .int (0 + ((j : Nat) : Int))]) = H14 at s89 y9
                rw [Int.zero_add, Int.zero_add] at y9
                have s614 := s613.trans s89
                have f14 := s614 _ _ f6
                have p14 := p6.keep (TQ.of_same s614)
                have tq := TQ.lst (o := .lst (ts.map V.ref ++ [V.ref t9])) f14
                refine ⟨F, _, _, rfl, rfl, f14, lt_line (by rw [List.length_map, p14.1]; omega), ?_⟩
                refine ⟨_, _, _, ts ++ [t9], rfl, (s6.trans s614).upd_own hF, (k6.trans (Kp.same s614)).upd, by rw [upd_same, List.map_append]; rfl, ?_⟩
                rw [pkP_succ, pkJ_some hc (by rw [esi, esj]; exact eu), esi, ← List.append_assoc]
                exact (p14.keep tq).snoc ⟨r13, us[p], tq _ _ (.of y9), tq _ _ (z13.same s89), tq _ _ (pth6.same s614)⟩
            · have p0 : ¬ (0 + ((p : Nat) : Int) > 0) := fun q => e1 (decide_eq_true q)
              refine ⟨_, rfl, _, rfl, _, _, rfl, rfl, _, rfl, ite2 (fun e2 => ?_) (fun e2 => ?_)⟩
              · have hc : 0 < p ∨ i < j := .inr (by have := of_decide_eq_true e2; omega)
                refine ⟨_, rfl, _, rfl, _, rfl, _, rfl, _, rfl, _, rfl, d, _, _, _, rfl, rfl, SqL.of d6, int_at g (by omega), _, rfl, ?_⟩
                rw [show (0 : Int) + ((p : Nat) : Int) = ((p : Nat) : Int) by omega]
                refine slA_of (i2.same s6).q (by rw [lsi]; exact n1) (Nat.le_of_lt n0) (fun c7 H7 s7 hc7 => ?_)
                have ec : ((sV prs[i].1).drop p).take (Mth.nxs (wR rows) prs[i].1 p 1 - p) = sV (Mth.cut (wR rows) prs[i].1 p) := by
                  unfold sV Mth.cut
                  rw [List.map_take, List.map_drop]
                rw [ec] at hc7
                have s07 := s6.trans s7
                refine ⟨_, rfl, _, rfl, M, _, _, _, rfl, rfl, SqL.of (s07 _ _ hM), at_ofG (j := j) (by omega) aj, ps[j], _, _, _, rfl, rfl, (j1.same s07).q.sq, atI_nat (j := 0) rfl, ar, c7, tj, rows, Mth.cut (wR rows) prs[i].1 p, prs[j].1, rfl, s07 _ _ ha, R, hc7, ⟨Mth.cut_forest (wR rows) Oi.st.f hps, by omega⟩, (j2.same s07).q, Oj.st.wf, fun H8 v o s8 hU hV => ?_⟩
                have eu := unF_eq hU
                have s68 := s7.trans s8
                have s08 := s07.trans s8
                have f8 := s68 _ _ f6
                cases o with
                | none =>
                  have hV : v = .non := hV
                  subst hV
                  refine ⟨_, rfl, rfl, _, rfl, ifn (by decide) ⟨_, _, _, ts, rfl, s08, k6.trans (Kp.same s68), f8, ?_⟩⟩
                  rw [pkP_succ, pkJ_none (by rw [esi, esj]; exact eu), List.append_nil]
                  exact p6.keep (TQ.of_same s68)
                | some u =>
                  obtain ⟨a, rfl, hu⟩ := hV
                  have ul := unF_le eu
                  have lu : (sV u).length = u.length := by rw [sV, List.length_map]
                  refine ⟨_, rfl, rfl, _, rfl, ifp (by simp) ?_⟩
                  refine ⟨_, rfl, _, rfl, _, rfl, ?_⟩
                  refine sl_to (j := p) (i2.same s08).q (by rw [lsi]; omega) fun r9 H9 s9 z9 => ?_
                  refine ⟨_, rfl, catA_q z9 (hu.same s9) (by rw [List.length_take, lsi, lu]; omega) fun r10 H10 s10 z10 => ?_⟩
                  have s810 := s9.trans s10
                  have s610 := s68.trans s810
                  refine ⟨_, rfl, _, rfl, _, rfl, d, _, _, _, rfl, rfl, SqL.of (s610 _ _ d6), int_at g (by omega), _, rfl, ?_⟩
                  unfold tNoPart
                  refine sl_from (i := Mth.nxs (wR rows) prs[i].1 p 1) (i2.same (s08.trans s810)).q (by rw [lsi]; exact n1) fun r11 H11 s11 z11 => ?_
                  refine catA_q (z10.same s11) z11 (by rw [List.length_append, List.length_take, List.length_drop, lsi, lu]; omega) fun r12 H12 s12 z12 => ?_
                  have e2 : (sV prs[i].1).take p ++ sV u ++ (sV prs[i].1).drop (Mth.nxs (wR rows) prs[i].1 p 1) = sV (prs[i].1.take p ++ u ++ prs[i].1.drop (Mth.nxs (wR rows) prs[i].1 p 1)) := by
                    unfold sV
                    rw [List.map_append, List.map_append, List.map_take, List.map_drop]
                  rw [e2] at z12
                  have s612 := (s610.trans s11).trans s12
                  refine ⟨r12, _, rfl, z12, ?_, fun H13 r13 s13 z13 => ?_⟩
                  · simp only [List.length_append, List.length_take, List.length_drop]
                    omega
                  have s613 := s612.trans s13
                  refine ⟨_, rfl, .inl ⟨rfl, _, SqL.of (s613 _ _ f6)⟩, _, rfl, _, rfl, _, rfl, _, rfl, q, _, _, _, rfl, rfl, SqL.of (s613 _ _ q6), at_ofG (j := p) (by omega) (by rw [List.getElem?_map, List.getElem?_eq_getElem hpu]; rfl), _, rfl, le_line (show 4 ≤ 100000 by decide), fun t9 ht9 => ?_⟩
                  have s89 := (Same.refl H13).upd_new (o := .tup [.ref r13, .int (0 + ((i : Nat) : Int)), .ref us[p], .int (0 + ((j : Nat) : Int))]) ht9
                  have y9 : (upd H13 t9 (.tup [.ref r13, .int (0 + ((i : Nat) : Int)), .ref us[p], .int (0 + ((j : Nat) : Int))])) t9 = some (.tup [.ref r13, .int (0 + ((i : Nat) : Int)), .ref us[p], .int (0 + ((j : Nat) : Int))]) := upd_same
                  generalize upd H13 t9 (.tup [.ref r13, .int (0 + ((i : Nat) : Int)), .ref us[p], .int (0 + ((j : Nat) : Int))]) = H14 at s89 y9
                  rw [Int.zero_add, Int.zero_add] at y9
                  have s614 := s613.trans s89
                  have f14 := s614 _ _ f6
                  have p14 := p6.keep (TQ.of_same s614)
                  have tq := TQ.lst (o := .lst (ts.map V.ref ++ [V.ref t9])) f14
                  refine ⟨F, _, _, rfl, rfl, f14, lt_line (by rw [List.length_map, p14.1]; omega), ?_⟩
                  refine ⟨_, _, _, ts ++ [t9], rfl, (s6.trans s614).upd_own hF, (k6.trans (Kp.same s614)).upd, by rw [upd_same, List.map_append]; rfl, ?_⟩
                  rw [pkP_succ, pkJ_some hc (by rw [esi, esj]; exact eu), esi, ← List.append_assoc]
                  exact (p14.keep tq).snoc ⟨r13, us[p], tq _ _ (.of y9), tq _ _ (z13.same s89), tq _ _ (pth6.same s614)⟩
              · have e2 : ¬ (0 + ((i : Nat) : Int) < 0 + (j : Nat)) := fun q => e2 (decide_eq_true q)
                refine ⟨_, _, _, ts, rfl, s6, k6, f6, ?_⟩
                rw [pkP_succ, pkJ_no (by omega), List.append_nil]
                exact p6
          · rintro σ H6 ⟨x5, x6, x7, ts, rfl, s6, k6, f6, p6⟩
            rw [Int.toNat_natCast, lpm, ← List.length_map (f := fun q : List Str × List Ent => q.1), List.append_assoc, ← pkI_knot (by rw [esp]; exact c)] at p6
            exact ⟨_, _, _, _, ts, rfl, s6, k5.trans k6, f6, p6⟩
      · rintro σ H5 ⟨x4, x5, x6, x7, ts, rfl, s5, k5, f5, p5⟩
        rw [Int.toNat_natCast, lsi, ← esi, ← pkS_succ] at p5
        exact ⟨_, _, _, _, _, _, _, _, ts, rfl, s5, f5, p5⟩
    · rintro σ H2 ⟨x0, x1, x2, x3, x4, x5, x6, x7, ts, rfl, s2, f2, p2⟩
      rw [Int.toNat_natCast, lpm] at p2
      exact ⟨_, rfl, k _ F ts s2 f2 p2⟩
end
end Sh
end
section
set_option Elab.async false
set_option linter.all false
set_option maxRecDepth 100000
set_option maxHeartbeats 2000000
namespace Sh
open PySem PySem.Spec PyProof.Rows L2
open C8 (pss_cut tCut)
open Evl (ixN_nat)
def spLaw (K : PySem.W.Frag) : Sp := fun vs H Q _ => ∃ (s : Addr) (ns : List Int), vs = [.ref s] ∧ SqL K H s (ns.map V.int) ∧ ns.length ≤ 63 ∧ ∀ H', Q (.bl true) H'
theorem fnOk0 {P : Program} {w : World} {K : PySem.W.Frag} {mg : Str → Option Value} {base : Heap} {k : Nat} {x : Str} {sp : Sp} {st : Stmt} {N ps : List Str} {f0 : Addr} {fd : FuncData} (F : FunD K x x (defArgs st) (defBody st) (defScope st) [] [] f0 fd) (S : FnScope N ps (defScope st)) (len : ∀ vs H Q E, sp vs H Q E → vs.length = ps.length)
    (hbody : ∀ (cdv : Value) (A : Around) (outer : List Env) (s : Shared) (H : Hp) (vs : List V) (Q : VK) (E : XK), Room k (A.deeper (envOfC x (defScope st) s.heap.objs.size f0 cdv)) → sp vs H Q E →
      ∃ t, PSs (cxOf CX0 P w K mg base N x (defScope st) f0 cdv A outer s H E).nox (defBody st) t ∧ t { nx := fun _ H' => Q .non H', rt := Q } (start N vs) H) : FnOk P w K mg base CX0 (k + 1) f0 fd ps sp :=
  F.ok S len fun cdv A outer s H vs Q E hr h => by
    obtain ⟨t, a, b⟩ := hbody cdv A outer s H vs Q E hr h
    exact ⟨t, a.nox, b⟩
theorem most_of (e : Int) (h0 : 0 ≤ e) (h : e < 4) : ∃ y : Nat, ([V.int 4, V.int 7, V.int 4, V.int 4] : List V)[e.toNat]? = some (.int (y : Nat)) ∧ y ≤ 7 := by
  have hh : ∀ j, j < 4 → ∃ y : Nat, ([V.int 4, V.int 7, V.int 4, V.int 4] : List V)[j]? = some (.int (y : Nat)) ∧ y ≤ 7 := by
    intro j hj
    match j, hj with
    | 0, _ => exact ⟨4, rfl, by decide⟩
    | 1, _ => exact ⟨7, rfl, by decide⟩
    | 2, _ => exact ⟨4, rfl, by decide⟩
    | 3, _ => exact ⟨4, rfl, by decide⟩
    | n + 4, h => exact absurd h (by omega)
  exact hh e.toNat (by omega)
theorem Kp.oth {a c b : Addr} {H H' : Hp} {o : HO} (k : Kp a H H') (hb : BagM H a c) (h : H b = some o) (n : ∀ ys, o ≠ .lst ys) : H' b = some o := by
  obtain ⟨⟨ys, ha⟩, _⟩ := hb.lsts
  exact k _ _ h (ne_of h ha (n ys))
theorem BedAt.kpM {C a c : Addr} {H H' : Hp} {p : Addr} {rows : List Row} (x : BedAt C H p rows) (b : BagM H a c) (s : Kp a H H') : BedAt C H' p rows := by
  obtain ⟨dx, r, k, w, rk, ts, h1, h2, h3, h4, h5, h6⟩ := x
  exact ⟨dx, r, k, w, rk, ts, s.oth b h1 (fun _ e => nomatch e), s.oth b h2 (fun _ e => nomatch e), h3.keep (s.tkM b), s.oth b h4 (fun _ e => nomatch e), s.oth b h5 (fun _ e => nomatch e), s.oth b h6 (fun _ e => nomatch e)⟩
theorem pkS_mem {w : Str → Nat} {ss : List (List Str)} {n : Nat} {k : Pk} (h : k ∈ pkS w ss n) : ∃ i p j u, p < (ss.getD i []).length ∧ unF w (Mth.cut w (ss.getD i []) p) (ss.getD j []) = some u ∧ k = (rowP w (ss.getD i []) p u, i, Mth.pth w (ss.getD i []) p, j) := by
  unfold pkS at h
  obtain ⟨i, _, h⟩ := List.mem_flatMap.mp h
  unfold pkI at h
  obtain ⟨p, hp, h⟩ := List.mem_flatMap.mp h
  have hp := List.mem_range.mp hp
  split at h
  · cases h
  unfold pkP at h
  obtain ⟨j, _, h⟩ := List.mem_flatMap.mp h
  unfold pkJ at h
  split at h
  · split at h
    · cases h
    · rename_i u hu
      exact ⟨i, p, j, u, hp, hu, List.mem_singleton.mp h⟩
  · cases h
theorem getD_le {ss : List (List Str)} (h : ∀ s ∈ ss, s.length ≤ 7) (i : Nat) : (ss.getD i []).length ≤ 7 := by
  rw [List.getD_eq_getElem?_getD]
  cases e : ss[i]? with
  | none => exact Nat.zero_le _
  | some s => exact h s (List.mem_of_getElem? e)
theorem pkS_small {w : Str → Nat} {ss : List (List Str)} {n : Nat} (h7 : ∀ s ∈ ss, s.length ≤ 7) (hf : ∀ s ∈ ss, Mth.forest w s 1 = true) {k : Pk} (h : k ∈ pkS w ss n) : k.1.length ≤ 100000 ∧ k.2.2.1.length ≤ 100000 := by
  obtain ⟨i, p, j, u, hp, hu, rfl⟩ := pkS_mem h
  have l1 := getD_le h7 i
  have l2 := getD_le h7 j
  have l3 := unF_le hu
  have l4 := Mth.cut_len w (ss.getD i []) p
  have hi : i < ss.length := Classical.byContradiction fun c => by
    rw [List.getD_eq_getElem?_getD, List.getElem?_eq_none (by omega)] at hp
    exact absurd hp (Nat.not_lt_zero _)
  have e : ss.getD i [] = ss[i] := getD_at hi
  have hff : Mth.forest w (ss.getD i []) 1 = true := by rw [e]; exact hf _ (List.getElem_mem hi)
  have l5 := Mth.pth_dep w hff hp
  constructor
  · show (rowP w (ss.getD i []) p u).length ≤ _
    unfold rowP
    rw [tgs_len]
    simp only [List.length_append, List.length_take, List.length_drop]
    omega
  · show (Mth.pth w (ss.getD i []) p).length ≤ _
    omega
abbrev s_law : Stmt := top 63
abbrev N_law : List Str := ["script", "bag", "kinds", "arity", "bed", "first", "second", "ones", "twos", "turn", "made", "held", "due"]
theorem sc_law : FnScope N_law ["script"] (defScope s_law) := ⟨rfl, rfl, rfl, by decide +kernel, rfl, by decide +kernel, by decide +kernel⟩
section
variable {P : Program} {w : World} {K : PySem.W.Frag} {mg : Str → Option Value} {base : Heap} {C CT CS : Addr}
theorem ok_law (T : Bm mg) (c_law_bag : DefOk P w K mg base CX0 1 "_law_bag" (spBagM K)) (c_law_pick : DefOk P w K mg base CX0 1 "_law_pick" spPick) (c_law_kinds : DefOk P w K mg base CX0 4 "_law_kinds" spKindsM) (c_law_arity : DefOk P w K mg base CX0 1 "_law_arity" spArity) (c_law_bed : DefOk P w K mg base CX0 7 "_law_bed" (spBedM C)) (c_law_made : DefOk P w K mg base CX0 3 "_law_made" spMadeM) (c_law_held : DefOk P w K mg base CX0 6 "_law_held" (spHeld C CT CS)) (c_law_peaks : DefOk P w K mg base CX0 3 "_law_peaks" spPeaksM) (c_law_same : DefOk P w K mg base CX0 4 "_law_same" (spSam 4)) (c_peaks : DefOk P w K mg base CX0 3 "peaks" (spPeaks C CT CS)) {f0 : Addr} {fd : FuncData} (F0 : FunD K "law" "law" (defArgs s_law) (defBody s_law) (defScope s_law) [] [] f0 fd) : FnOk P w K mg base CX0 11 f0 fd ["script"] (spLaw K) := by
  refine fnOk0 F0 sc_law (fun vs H Q E h => ?_) (fun cdv A outer s H vs Q E hr h => ?_)
  · obtain ⟨sc, ns, rfl, _⟩ := h
    rfl
  · obtain ⟨sc, ns, rfl, hS, hn, k⟩ := h
    refine ⟨_, (pss_cons (ps_set (i := 1) sc_law.nd rfl (Or.inl rfl) (pe_d c_law_bag (hr.mono (by decide)) pass0 (pa_cons (pv 0) pa_nil)))
      (pss_cons (ps_set (i := 2) sc_law.nd rfl (Or.inl rfl) (pe_d c_law_kinds (hr.mono (by decide)) pass0 (pa_cons (pv 1) pa_nil)))
      (pss_cons (ps_set (i := 3) sc_law.nd rfl (Or.inl rfl) (pe_d c_law_arity (hr.mono (by decide)) pass0 (pa_cons (pv 2) pa_nil)))
      (pss_cons (ps_set (i := 4) sc_law.nd rfl (Or.inl rfl) (pe_d c_law_bed (hr.mono (by decide)) pass0 (pa_cons (pv 2) pa_nil)))
      (pss_cons (ps_set (i := 5) sc_law.nd rfl (Or.inl rfl) (pe_d c_law_made (hr.mono (by decide)) pass0 (pa_cons (pv 1) (pa_cons (pv 2) (pa_cons (pe_ix ix_tup (pe_tup (pa_cons pe_int (pa_cons pe_int (pa_cons pe_int (pa_cons pe_int pa_nil))))) (pe_d c_law_pick (hr.mono (by decide)) pass0 (pa_cons (pv 1) (pa_cons pe_int pa_nil))) (fun _ _ => rfl)) pa_nil)))))
      (pss_cons (ps_set (i := 6) sc_law.nd rfl (Or.inl rfl) (pe_d c_law_made (hr.mono (by decide)) pass0 (pa_cons (pv 1) (pa_cons (pv 2) (pa_cons (pe_ix ix_tup (pe_tup (pa_cons pe_int (pa_cons pe_int (pa_cons pe_int (pa_cons pe_int pa_nil))))) (pe_d c_law_pick (hr.mono (by decide)) pass0 (pa_cons (pv 1) (pa_cons pe_int pa_nil))) (fun _ _ => rfl)) pa_nil)))))
      (pss_cons (ps_set (i := 7) sc_law.nd rfl (Or.inl rfl) (pe_d c_law_held (hr.mono (by decide)) pass0 (pa_cons (pv 4) (pa_cons (pv 5) pa_nil))))
      (pss_cons (ps_set (i := 8) sc_law.nd rfl (Or.inl rfl) (pe_d c_law_held (hr.mono (by decide)) pass0 (pa_cons (pv 4) (pa_cons (pv 6) pa_nil))))
      (pss_cons (ps_for PassesOwn.never rfl (pi_range1 (by rfl) T.b_range (pa_cons pe_int pa_nil)) (pg_name (i := 9) sc_law.nd rfl (Or.inl rfl))
        (pss_one (ps_for PassesOwn.never rfl (pi_list (pe_lst (pa_cons (pe_tup (pa_cons (pv 5) (pa_cons (pv 7) pa_nil))) (pa_cons (pe_tup (pa_cons (pv 6) (pa_cons (pv 8) pa_nil))) pa_nil)))) (pg_tup (by rfl) (pgs_cons (pg_name (i := 10) sc_law.nd rfl (Or.inl rfl)) (pgs_cons (pg_name (i := 11) sc_law.nd rfl (Or.inl rfl)) pgs_nil)))
          (pss_cons (ps_set (i := 12) sc_law.nd rfl (Or.inl rfl) (pe_d c_law_peaks (hr.mono (by decide)) pass0 (pa_cons (pv 3) (pa_cons (pv 10) pa_nil))))
          (pss_one (ps_if (pt_not (pt_val (pe_d c_law_same (hr.mono (by decide)) pass0 (pa_cons (pe_d c_peaks (hr.mono (by decide)) pass0 (pa_cons (pv 11) pa_nil)) (pa_cons (pe_callTy call_tuple_of (by rfl) T.b_tuple (by decide +kernel) (pa_cons (pv 12) pa_nil)) pa_nil)))))
            (pss_one (ps_ret pe_bl))
            pss_nil))))))
      (pss_one (ps_ret pe_bl))))))))))), ?_⟩
    refine ⟨_, rfl, sc, ns, rfl, hS, fun H1 a c s1 ha hc b1 => ?_⟩
    refine ⟨_, rfl, a, c, rfl, b1, fun H2 r rows k2 b2 hr0 nra nrc hR R4 h2 => ?_⟩
    have R8 := R4.up
    refine ⟨_, rfl, r, rows, rfl, hR, R4, fun H3 d s3 hd0 hd => ?_⟩
    have b3 := b2.same s3
    have hR3 := hR.same s3
    refine ⟨_, rfl, r, rows, rfl, hR3, R4, h2, fun H4 b s4 hb0 hB => ?_⟩
    have b4 := b3.same s4
    have hR4 := hR3.same s4
    have d4 := s4 _ _ hd
    refine ⟨_, rfl, _, rfl, le_line (show 4 ≤ 100000 by decide), fun t ht => ?_⟩
    have s5 : Same H4 (upd H4 t (.tup [V.int 4, V.int 7, V.int 4, V.int 4])) := (Same.refl H4).upd_new ht
    have t5 : (upd H4 t (.tup [V.int 4, V.int 7, V.int 4, V.int 4])) t = some (.tup [V.int 4, V.int 7, V.int 4, V.int 4]) := upd_same
    generalize upd H4 t (.tup [V.int 4, V.int 7, V.int 4, V.int 4]) = H5 at s5 t5
    have b5 := b4.same s5
    refine ⟨_, rfl, a, c, 4, rfl, b5, by decide, by decide, fun H6 e k6 b6 e0 e4 => ?_⟩
    obtain ⟨y, hy, y7⟩ := most_of e e0 e4
    have rk : ∀ {H H' : Hp}, RowsAt H r rows → BagM H a c → Kp a H H' → RowsAt H' r rows := fun {H H'} x b q => by
      obtain ⟨ts, u1, u2⟩ := x
      exact ⟨ts, q _ _ u1 nra, u2.keep (q.tkM b)⟩
    have hR6 := rk (hR4.same s5) b5 k6
    have B6 := (hB.same s5).kpM b5 k6
    have d6 := k6.oth b5 (s5 _ _ d4) (fun _ e => nomatch e)
    refine ⟨t, _, _, _, rfl, rfl, SqT.of (k6.oth b5 t5 (fun _ e => nomatch e)), at_ofG (j := e.toNat) (by omega) hy, a, c, r, y, rows, rfl, b6, nra, hR6, R4, y7, fun H7 M1 ps1 prs1 k7 b7 _ nM1 hM1 hP1 l1 => ?_⟩
    have hR7 := rk hR6 b6 k7
    have B7 := B6.kpM b6 k7
    have d7 := k7.oth b6 d6 (fun _ e => nomatch e)
    refine ⟨_, rfl, _, rfl, le_line (show 4 ≤ 100000 by decide), fun t2 ht2 => ?_⟩
    have s8 : Same H7 (upd H7 t2 (.tup [V.int 4, V.int 7, V.int 4, V.int 4])) := (Same.refl H7).upd_new ht2
    have t8 : (upd H7 t2 (.tup [V.int 4, V.int 7, V.int 4, V.int 4])) t2 = some (.tup [V.int 4, V.int 7, V.int 4, V.int 4]) := upd_same
    generalize upd H7 t2 (.tup [V.int 4, V.int 7, V.int 4, V.int 4]) = H8 at s8 t8
    have b8 := b7.same s8
    refine ⟨_, rfl, a, c, 4, rfl, b8, by decide, by decide, fun H9 e2 k9 b9 e20 e24 => ?_⟩
    obtain ⟨y2, hy2, y27⟩ := most_of e2 e20 e24
    have hR9 := rk (hR7.same s8) b8 k9
    have B9 := (B7.same s8).kpM b8 k9
    have d9 := k9.oth b8 (s8 _ _ d7) (fun _ e => nomatch e)
    have hM19 := k9 _ _ (s8 _ _ hM1) nM1
    have hP19 := (hP1.same s8).kp k9 b8
    refine ⟨t2, _, _, _, rfl, rfl, SqT.of (k9.oth b8 t8 (fun _ e => nomatch e)), at_ofG (j := e2.toNat) (by omega) hy2, a, c, r, y2, rows, rfl, b9, nra, hR9, R4, y27, fun H10 M2 ps2 prs2 k10 b10 _ nM2 hM2 hP2 l2 => ?_⟩
    have B10 := B9.kpM b9 k10
    have d10 := k10.oth b9 d9 (fun _ e => nomatch e)
    have hM110 := k10 _ _ hM19 nM1
    have hP110 := hP19.kp k10 b9
    refine ⟨_, rfl, _, rfl, b, M1, rows, ps1, prs1, rfl, B10, R8, hM110, hP110, l1, fun H11 h1 s11 hH1 => ?_⟩
    refine ⟨_, rfl, _, rfl, b, M2, rows, ps2, prs2, rfl, B10.same s11, R8, s11 _ _ hM2, hP2.same s11, l2, fun H12 h2' s12 hH2 => ?_⟩
    have s02 := s11.trans s12
    have hH1 := hH1.same s12
    have d12 := s02 _ _ d10
    have hM112 := s02 _ _ hM110
    have hM212 := s02 _ _ hM2
    have hP112 := hP110.same s02
    have hP212 := hP2.same s02
    clear k2 k6 k7 k9 k10 hP1 hP19 hP110 hP2
    refine ⟨_, rfl, by decide, by decide, for_range (n := (2 : Int).toNat) (fun i σ H' => ∃ x0 x1 x2 x3 : Option V, σ = [some (.ref sc), some (.ref a), some (.ref r), some (.ref d), some (.ref b), some (.ref M1), some (.ref M2), some (.ref h1), some (.ref h2'), x0, x1, x2, x3] ∧ Same H12 H')
      ⟨none, none, none, none, rfl, Same.refl _⟩ ?_ ?_⟩
    · rintro i σ H13 hi ⟨x0, x1, x2, x3, rfl, s13⟩
      refine ⟨_, rfl, _, rfl, le_line (show 2 ≤ 100000 by decide), fun u1 hu1 => ?_⟩
      have s14 := s13.upd_new (o := .tup [.ref M1, .ref h1]) hu1
      have v14 : (upd H13 u1 (.tup [V.ref M1, V.ref h1])) u1 = some (.tup [V.ref M1, V.ref h1]) := upd_same
      generalize upd H13 u1 (.tup [V.ref M1, V.ref h1]) = H14 at s14 v14
      refine ⟨_, rfl, _, rfl, le_line (show 2 ≤ 100000 by decide), fun u2 hu2 => ?_⟩
      have s1415 := (Same.refl H14).upd_new (o := .tup [.ref M2, .ref h2']) hu2
      have v15 : (upd H14 u2 (.tup [V.ref M2, V.ref h2'])) u2 = some (.tup [V.ref M2, V.ref h2']) := upd_same
      have w15 := s1415 _ _ v14
      have s15 := s14.trans s1415
      generalize upd H14 u2 (.tup [V.ref M2, V.ref h2']) = H15 at s1415 s15 v15 w15
      refine ⟨le_line (show 2 ≤ 100000 by decide), fun l hl => ?_⟩
      have s1516 := (Same.refl H15).upd_new (o := .lst [.ref u1, .ref u2]) hl
      have l16 : (upd H15 l (.lst [.ref u1, .ref u2])) l = some (.lst [.ref u1, .ref u2]) := upd_same
      have v16 := s1516 _ _ v15
      have w16 := s1516 _ _ w15
      have s16 := s15.trans s1516
      generalize upd H15 l (.lst [.ref u1, .ref u2]) = H16 at s1516 l16 v16 w16 s16
      refine ⟨l, rfl, ⟨_, SqL.of l16⟩, for_it (walk_list (xs := [.ref u1, .ref u2])) (fun i2 σ H' => ∃ x1 x2 x3 : Option V, σ = [some (.ref sc), some (.ref a), some (.ref r), some (.ref d), some (.ref b), some (.ref M1), some (.ref M2), some (.ref h1), some (.ref h2'), some (.int (0 + (i : Nat))), x1, x2, x3] ∧ Same H16 H')
        ⟨x1, x2, x3, rfl, Same.refl _⟩ (fun i2 σ H' _ ⟨_, _, _, _, q⟩ => SqL.of (q _ _ l16)) ?_ ?_⟩
      · rintro i2 v σ H17 H18 hi2 ⟨x1, x2, x3, rfl, s17⟩ ⟨rfl, hv⟩
        have s1218 := s16.trans s17
        obtain ⟨u, M, g, ps, prs, rfl, hu, hM, hP, hl, hH⟩ : ∃ (u M g : Addr) (ps : List Addr) (prs : List (List Str × List Ent)), v = .ref u ∧ H18 u = some (.tup [.ref M, .ref g]) ∧ H12 M = some (.lst (ps.map V.ref)) ∧ MdAt rows H12 ps prs ∧ prs.length ≤ 4 ∧ HeldAt C CT CS H12 g b rows prs := by
          match i2, hv with
          | 0, hv => cases hv; exact ⟨u1, M1, h1, ps1, prs1, rfl, s17 _ _ w16, hM112, hP112, l1, hH1⟩
          | 1, hv => cases hv; exact ⟨u2, M2, h2', ps2, prs2, rfl, s17 _ _ v16, hM212, hP212, l2, hH2⟩
          | i2 + 2, hv => simp at hv
        refine ⟨u, _, rfl, SqT.of hu, rfl, _, _, rfl, _, _, rfl, rfl, ?_⟩
        refine ⟨_, rfl, _, rfl, d, M, rows, ps, prs, rfl, s1218 _ _ d12, R8, s1218 _ _ hM, hP.same s1218, hl, fun H19 r19 ts19 s19 hr19 hk19 => ?_⟩
        have s1219 := s1218.trans s19
        refine ⟨_, rfl, g, b, rows, prs, rfl, hH.same s1219, R8, hl, fun H20 r20 ts20 s20 hr20 hk20 => ?_⟩
        refine ⟨_, rfl, r19, _, rfl, .inl ⟨SqL.of (s20 _ _ hr19), fun p hp => ?_⟩⟩
        have s21 := (Same.refl H20).upd_new (o := .tup (ts19.map V.ref)) hp
        have ok := hP.ok
        refine ⟨_, _, rfl, sam_pks (hr20.same s21) (.of upd_same) (hk20.keep (TQ.of_same s21)) (hk19.keep (TQ.of_same (s20.trans s21))) ?_ (fun k hk => pkS_small ?_ ?_ hk), fun H22 s22 => ?_⟩
        · have := pkS_len (wR rows) (ss := prs.map (·.1)) (by rw [List.length_map]; exact hl) (fun s hs => by
            obtain ⟨q, hq, rfl⟩ := List.mem_map.mp hs
            exact (ok q hq).l7) prs.length
          omega
        · intro s hs
          obtain ⟨q, hq, rfl⟩ := List.mem_map.mp hs
          exact (ok q hq).l7
        · intro s hs
          obtain ⟨q, hq, rfl⟩ := List.mem_map.mp hs
          exact (ok q hq).st.f
        · exact ⟨_, rfl, ifn (by decide) ⟨_, _, _, rfl, ((s17.trans s19).trans s20).trans (s21.trans s22)⟩⟩
      · rintro σ H17 ⟨x1, x2, x3, rfl, s17⟩
        exact ⟨_, _, _, _, rfl, s16.trans s17⟩
    · rintro σ H13 ⟨x0, x1, x2, x3, rfl, s13⟩
      exact k _
end
end Sh
end
section
set_option Elab.async false
set_option linter.all false
set_option maxRecDepth 100000
set_option maxHeartbeats 0
namespace Sh
open PySem PySem.Spec PyProof.Rows L2
abbrev TL : PySem.W.OpenLaw := PySem.Challenge.rw_shearyard_k33_peaks_in_order
abbrev R : PySem.W.OpenRow := PySem.W.OpenLaw.row TL
def dOf (n : PySem.Str) (st : Stmt) : He.DefD := ⟨(n, none), n, n, defArgs st, defBody st, defScope st, [], []⟩
def dM (c m q : PySem.Str) (st : Stmt) : He.DefD := ⟨(c, some m), m, q, defArgs st, defBody st, defScope st, [], []⟩
def dK (c m q : PySem.Str) (st : Stmt) (ks : List (Str × He.Dv)) : He.DefD := ⟨(c, some m), m, q, defArgs st, defBody st, defScope st, [], ks⟩
def fn : List He.DefD := [dOf "fault_place" s_fault_place, dOf "ends_of" s_ends_of, dOf "paths_of" s_paths_of, dOf "union_of" s_union_of, dOf "with_tags" s_with_tags, dOf "peaks" s_peaks, dOf "peak_plant" s_peak_plant, dOf "all_letters" s_all_letters, dOf "is_name" s_is_name, dOf "check_pairs" s_check_pairs, dOf "check_beds" s_check_beds, dOf "check_trim" s_check_trim, dOf "result_fault" s_result_fault, dOf "knots_in" s_knots_in, dOf "_law_bag" s_law_bag, dOf "_law_pick" s_law_pick, dOf "_law_word" s_law_word, dOf "_law_words" s_law_words, dOf "_law_kinds" s_law_kinds, dOf "_law_arity" s_law_arity, dOf "_law_bed" s_law_bed, dOf "_law_stump" s_law_stump, dOf "_law_result" s_law_result, dOf "_law_tame" s_law_tame, dOf "_law_made" s_law_made, dOf "_law_held" s_law_held, dOf "_law_stops" s_law_stops, dOf "_law_paths" s_law_paths, dOf "_law_tagged" s_law_tagged, dOf "_law_union" s_law_union, dOf "_law_peaks" s_law_peaks, dOf "_law_same" s_law_same, dOf "law" s_law] ++ [dM "Bed" "__init__" "Bed.__init__" s_init__, dM "Bed" "same" "Bed.same" s_same, dM "Trim" "__init__" "Trim.__init__" s_Trim_init__, dK "Trims" "__init__" "Trims.__init__" s_Trims_init__ [("name", .str "trims")]]
def fa : List He.Fa := [.glo "fault_place", .glo "ends_of", .glo "paths_of", .glo "union_of", .glo "with_tags", .glo "peaks", .glo "peak_plant", .glo "all_letters", .glo "is_name", .glo "check_pairs", .glo "check_beds", .glo "check_trim", .glo "result_fault", .glo "knots_in", .glo "_law_bag", .glo "_law_pick", .glo "_law_word", .glo "_law_words", .glo "_law_kinds", .glo "_law_arity", .glo "_law_bed", .glo "_law_stump", .glo "_law_result", .glo "_law_tame", .glo "_law_made", .glo "_law_held", .glo "_law_stops", .glo "_law_paths", .glo "_law_tagged", .glo "_law_union", .glo "_law_peaks", .glo "_law_same", .glo "law", .glo "Bed", .cls "Bed", .mkr "Bed", .noat "Bed" "rows", .noat "Bed" "kinds", .noat "Bed" "widths", .noat "Bed" "ranks", .meth "Bed" "same", .glo "Trim", .cls "Trim", .mkr "Trim", .noat "Trim" "bed", .noat "Trim" "stump", .noat "Trim" "result", .glo "Trims", .cls "Trims", .mkr "Trims", .noat "Trims" "bed", .noat "Trims" "trims", .noat "Trims" "name", .free "len", .free "range", .free "abs", .free "int", .free "max", .free "all", .free "isinstance", .free "set", .free "list", .free "tuple", .free "bool", .free "str", .free "enumerate", .free "zip", .free "ValueError", .int "MOST_KINDS" 8, .int "MOST_BRANCHES" 3, .int "LONGEST_NAME" 8, .int "MOST_ENTRIES" 200, .int "MOST_TRIMS" 8, .str "LETTERS" "abcdefghijklmnopqrstuvwxyz", .str "HOLE" "*"]
def xs : List Hx.XDef := []
def nsX : List PySem.Str := []
abbrev hk : PySem.W.Hook := Hx.hookY TL.prog.main.file 4 fa fn xs "YardError" nsX
def ob (s : PySem.W.SharedT) : Hx.AlY := Hx.obsY TL.prog.main.file 4 fa fn xs "YardError" nsX (HandSHeadRun.getT s)
def names : List PySem.Str := (["YardError", "InvalidBed", "InvalidStump", "InvalidTrim", "InvalidText", "UnknownKind", "OtherBed", "TooMany", "MOST_KINDS", "MOST_BRANCHES", "MOST_ENTRIES", "MOST_TRIMS", "fault_place", "ends_of", "paths_of", "HOLE", "union_of", "with_tags", "peaks", "peak_plant", "LETTERS", "LONGEST_NAME", "all_letters", "is_name", "DIGITS"] : List PySem.Str) ++ (["check_pairs", "check_beds", "Bed", "check_trim", "result_fault", "knots_in", "Trim", "Trims", "_law_bag", "_law_pick", "_law_word", "_law_words", "_law_kinds", "_law_arity", "_law_bed", "_law_stump", "_law_result", "_law_tame", "_law_made", "_law_held", "_law_stops", "_law_paths", "_law_fits", "_law_cut", "_law_places"] : List PySem.Str) ++ (["_law_tagged", "_law_union", "_law_peaks", "_law_same"] : List PySem.Str)
end Sh
end
section
set_option Elab.async false
set_option linter.all false
set_option maxRecDepth 100000
set_option maxHeartbeats 0
namespace Sh
open PySem PySem.W PySem.Spec PyProof.Rows L2 HandSHeadRun
theorem pa (w : World) (os : OsState) : (HandSHeadRun.endF (stepQ (denQ tabQ) R.prog w) 9000 R.prog w os).map (fun s => (looksF R.prog (boot_heap w.params) s.abs, seenQ (PySem.W.view R.prog [63]) names (importedModules R.prog.main.body) (fun s => xlAt (PySem.W.view R.prog [63]) [] s && recOk R.toRowW.records s) s.abs, He.obsD fa fn (Hx.frY 4 (HandSHeadRun.getT s)))) = some (true, openGood (PySem.W.view R.prog [63]) names, He.valD fn) := by
  kernel_rfl
theorem pb (w : World) (os : OsState) : (HandSHeadRun.endF (stepQ (denQ tabQ) R.prog w) 9000 R.prog w os).map (fun s => ((xs.all fun d => d.ok TL.prog.main.file (Hx.frY 4 (HandSHeadRun.getT s))), (xs.map fun d => Hx.xvOf (Hx.frY 4 (HandSHeadRun.getT s)) d.x))) = some (true, xs.map Hx.XDef.val) := by
  kernel_rfl
theorem pc (w : World) (os : OsState) : (HandSHeadRun.endF (stepQ (denQ tabQ) R.prog w) 9000 R.prog w os).map (fun s => (nsX.all fun x => Hx.yB (Hx.frY 4 (HandSHeadRun.getT s)) "YardError" nsX x)) = some true := by
  kernel_rfl
theorem glue {α A B C D E : Type} {e : Option α} {f : α → A} {g : α → B} {d : α → C} {x : α → D} {y : α → E} {a : A} {b : B} {c : C} {x0 : D} {y0 : E} (h1 : e.map (fun s => (f s, g s, d s)) = some (a, b, c)) (h2 : e.map x = some x0) (h3 : e.map y = some y0) : e.map (fun s => (f s, g s, ((d s, x s), y s))) = some (a, b, ((c, x0), y0)) := by
  cases e with
  | none => cases h1
  | some s =>
    have e1 := Option.some.inj h1
    have e2 : x s = x0 := Option.some.inj h2
    have e3 : y s = y0 := Option.some.inj h3
    have e4 : f s = a := congrArg (fun z => z.1) e1
    have e5 : g s = b := congrArg (fun z => z.2.1) e1
    have e6 : d s = c := congrArg (fun z => z.2.2) e1
    show some (f s, g s, ((d s, x s), y s)) = _
    rw [e2, e3, e4, e5, e6]
theorem run (w : World) : HandSHeadRun.RunEq R (PySem.W.view R.prog [63]) hk ob 9000 names w := fun os => glue (pa w os) (pb w os) (pc w os)
end Sh
end
section
set_option Elab.async false
set_option linter.all false
set_option maxRecDepth 100000
set_option maxHeartbeats 4000000
set_option autoImplicit false
namespace Sh
open PySem PySem.Spec PyProof.Rows L2
theorem ob_eq (s : PySem.W.SharedT) : ob s = hk.obs s.abs := Hx.obsY_eq (HandSHeadRun.getT_eq s)
theorem facts {w : World} {K : PySem.W.Frag} {h : Heap} {mg : Str → Option Value} {f : Addr} (X : K.In h) (G : h.Ns mainGlobals mg) (hfa : mg ("law" : Str) = some (.ref f)) (c : He.SaysD fa fn K) :
    ∃ fd : FuncData, (∀ (s : Shared) (v : Value), BindsTo s fd ⟨[v], []⟩ [("script", v)]) ∧ ∀ base : Heap, K.In base → base.Ns mainGlobals mg → FnOk TL.prog w K mg base CX0 11 f fd ["script"] (spLaw K) := by
  have D_fault_place : Def0 K mg "fault_place" s_fault_place := by
    obtain ⟨fd, F⟩ := c.def_ 0 (d := dOf "fault_place" s_fault_place) rfl
    exact ⟨_, fd, He.glo_ok X G (c.fact 0 (f := .glo "fault_place") rfl), F⟩
  have D_ends_of : Def0 K mg "ends_of" s_ends_of := by
    obtain ⟨fd, F⟩ := c.def_ 1 (d := dOf "ends_of" s_ends_of) rfl
    exact ⟨_, fd, He.glo_ok X G (c.fact 1 (f := .glo "ends_of") rfl), F⟩
  have D_paths_of : Def0 K mg "paths_of" s_paths_of := by
    obtain ⟨fd, F⟩ := c.def_ 2 (d := dOf "paths_of" s_paths_of) rfl
    exact ⟨_, fd, He.glo_ok X G (c.fact 2 (f := .glo "paths_of") rfl), F⟩
  have D_union_of : Def0 K mg "union_of" s_union_of := by
    obtain ⟨fd, F⟩ := c.def_ 3 (d := dOf "union_of" s_union_of) rfl
    exact ⟨_, fd, He.glo_ok X G (c.fact 3 (f := .glo "union_of") rfl), F⟩
  have D_with_tags : Def0 K mg "with_tags" s_with_tags := by
    obtain ⟨fd, F⟩ := c.def_ 4 (d := dOf "with_tags" s_with_tags) rfl
    exact ⟨_, fd, He.glo_ok X G (c.fact 4 (f := .glo "with_tags") rfl), F⟩
  have D_peaks : Def0 K mg "peaks" s_peaks := by
    obtain ⟨fd, F⟩ := c.def_ 5 (d := dOf "peaks" s_peaks) rfl
    exact ⟨_, fd, He.glo_ok X G (c.fact 5 (f := .glo "peaks") rfl), F⟩
  have D_peak_plant : Def0 K mg "peak_plant" s_peak_plant := by
    obtain ⟨fd, F⟩ := c.def_ 6 (d := dOf "peak_plant" s_peak_plant) rfl
    exact ⟨_, fd, He.glo_ok X G (c.fact 6 (f := .glo "peak_plant") rfl), F⟩
  have D_all_letters : Def0 K mg "all_letters" s_all_letters := by
    obtain ⟨fd, F⟩ := c.def_ 7 (d := dOf "all_letters" s_all_letters) rfl
    exact ⟨_, fd, He.glo_ok X G (c.fact 7 (f := .glo "all_letters") rfl), F⟩
  have D_is_name : Def0 K mg "is_name" s_is_name := by
    obtain ⟨fd, F⟩ := c.def_ 8 (d := dOf "is_name" s_is_name) rfl
    exact ⟨_, fd, He.glo_ok X G (c.fact 8 (f := .glo "is_name") rfl), F⟩
  have D_check_pairs : Def0 K mg "check_pairs" s_check_pairs := by
    obtain ⟨fd, F⟩ := c.def_ 9 (d := dOf "check_pairs" s_check_pairs) rfl
    exact ⟨_, fd, He.glo_ok X G (c.fact 9 (f := .glo "check_pairs") rfl), F⟩
  have D_check_beds : Def0 K mg "check_beds" s_check_beds := by
    obtain ⟨fd, F⟩ := c.def_ 10 (d := dOf "check_beds" s_check_beds) rfl
    exact ⟨_, fd, He.glo_ok X G (c.fact 10 (f := .glo "check_beds") rfl), F⟩
  have D_check_trim : Def0 K mg "check_trim" s_check_trim := by
    obtain ⟨fd, F⟩ := c.def_ 11 (d := dOf "check_trim" s_check_trim) rfl
    exact ⟨_, fd, He.glo_ok X G (c.fact 11 (f := .glo "check_trim") rfl), F⟩
  have D_result_fault : Def0 K mg "result_fault" s_result_fault := by
    obtain ⟨fd, F⟩ := c.def_ 12 (d := dOf "result_fault" s_result_fault) rfl
    exact ⟨_, fd, He.glo_ok X G (c.fact 12 (f := .glo "result_fault") rfl), F⟩
  have D_knots_in : Def0 K mg "knots_in" s_knots_in := by
    obtain ⟨fd, F⟩ := c.def_ 13 (d := dOf "knots_in" s_knots_in) rfl
    exact ⟨_, fd, He.glo_ok X G (c.fact 13 (f := .glo "knots_in") rfl), F⟩
  have D__law_bag : Def0 K mg "_law_bag" s_law_bag := by
    obtain ⟨fd, F⟩ := c.def_ 14 (d := dOf "_law_bag" s_law_bag) rfl
    exact ⟨_, fd, He.glo_ok X G (c.fact 14 (f := .glo "_law_bag") rfl), F⟩
  have D__law_pick : Def0 K mg "_law_pick" s_law_pick := by
    obtain ⟨fd, F⟩ := c.def_ 15 (d := dOf "_law_pick" s_law_pick) rfl
    exact ⟨_, fd, He.glo_ok X G (c.fact 15 (f := .glo "_law_pick") rfl), F⟩
  have D__law_word : Def0 K mg "_law_word" s_law_word := by
    obtain ⟨fd, F⟩ := c.def_ 16 (d := dOf "_law_word" s_law_word) rfl
    exact ⟨_, fd, He.glo_ok X G (c.fact 16 (f := .glo "_law_word") rfl), F⟩
  have D__law_words : Def0 K mg "_law_words" s_law_words := by
    obtain ⟨fd, F⟩ := c.def_ 17 (d := dOf "_law_words" s_law_words) rfl
    exact ⟨_, fd, He.glo_ok X G (c.fact 17 (f := .glo "_law_words") rfl), F⟩
  have D__law_kinds : Def0 K mg "_law_kinds" s_law_kinds := by
    obtain ⟨fd, F⟩ := c.def_ 18 (d := dOf "_law_kinds" s_law_kinds) rfl
    exact ⟨_, fd, He.glo_ok X G (c.fact 18 (f := .glo "_law_kinds") rfl), F⟩
  have D__law_arity : Def0 K mg "_law_arity" s_law_arity := by
    obtain ⟨fd, F⟩ := c.def_ 19 (d := dOf "_law_arity" s_law_arity) rfl
    exact ⟨_, fd, He.glo_ok X G (c.fact 19 (f := .glo "_law_arity") rfl), F⟩
  have D__law_bed : Def0 K mg "_law_bed" s_law_bed := by
    obtain ⟨fd, F⟩ := c.def_ 20 (d := dOf "_law_bed" s_law_bed) rfl
    exact ⟨_, fd, He.glo_ok X G (c.fact 20 (f := .glo "_law_bed") rfl), F⟩
  have D__law_stump : Def0 K mg "_law_stump" s_law_stump := by
    obtain ⟨fd, F⟩ := c.def_ 21 (d := dOf "_law_stump" s_law_stump) rfl
    exact ⟨_, fd, He.glo_ok X G (c.fact 21 (f := .glo "_law_stump") rfl), F⟩
  have D__law_result : Def0 K mg "_law_result" s_law_result := by
    obtain ⟨fd, F⟩ := c.def_ 22 (d := dOf "_law_result" s_law_result) rfl
    exact ⟨_, fd, He.glo_ok X G (c.fact 22 (f := .glo "_law_result") rfl), F⟩
  have D__law_tame : Def0 K mg "_law_tame" s_law_tame := by
    obtain ⟨fd, F⟩ := c.def_ 23 (d := dOf "_law_tame" s_law_tame) rfl
    exact ⟨_, fd, He.glo_ok X G (c.fact 23 (f := .glo "_law_tame") rfl), F⟩
  have D__law_made : Def0 K mg "_law_made" s_law_made := by
    obtain ⟨fd, F⟩ := c.def_ 24 (d := dOf "_law_made" s_law_made) rfl
    exact ⟨_, fd, He.glo_ok X G (c.fact 24 (f := .glo "_law_made") rfl), F⟩
  have D__law_held : Def0 K mg "_law_held" s_law_held := by
    obtain ⟨fd, F⟩ := c.def_ 25 (d := dOf "_law_held" s_law_held) rfl
    exact ⟨_, fd, He.glo_ok X G (c.fact 25 (f := .glo "_law_held") rfl), F⟩
  have D__law_stops : Def0 K mg "_law_stops" s_law_stops := by
    obtain ⟨fd, F⟩ := c.def_ 26 (d := dOf "_law_stops" s_law_stops) rfl
    exact ⟨_, fd, He.glo_ok X G (c.fact 26 (f := .glo "_law_stops") rfl), F⟩
  have D__law_paths : Def0 K mg "_law_paths" s_law_paths := by
    obtain ⟨fd, F⟩ := c.def_ 27 (d := dOf "_law_paths" s_law_paths) rfl
    exact ⟨_, fd, He.glo_ok X G (c.fact 27 (f := .glo "_law_paths") rfl), F⟩
  have D__law_tagged : Def0 K mg "_law_tagged" s_law_tagged := by
    obtain ⟨fd, F⟩ := c.def_ 28 (d := dOf "_law_tagged" s_law_tagged) rfl
    exact ⟨_, fd, He.glo_ok X G (c.fact 28 (f := .glo "_law_tagged") rfl), F⟩
  have D__law_union : Def0 K mg "_law_union" s_law_union := by
    obtain ⟨fd, F⟩ := c.def_ 29 (d := dOf "_law_union" s_law_union) rfl
    exact ⟨_, fd, He.glo_ok X G (c.fact 29 (f := .glo "_law_union") rfl), F⟩
  have D__law_peaks : Def0 K mg "_law_peaks" s_law_peaks := by
    obtain ⟨fd, F⟩ := c.def_ 30 (d := dOf "_law_peaks" s_law_peaks) rfl
    exact ⟨_, fd, He.glo_ok X G (c.fact 30 (f := .glo "_law_peaks") rfl), F⟩
  have D__law_same : Def0 K mg "_law_same" s_law_same := by
    obtain ⟨fd, F⟩ := c.def_ 31 (d := dOf "_law_same" s_law_same) rfl
    exact ⟨_, fd, He.glo_ok X G (c.fact 31 (f := .glo "_law_same") rfl), F⟩
  obtain ⟨fdL, F_law⟩ := c.def_ 32 (d := dOf "law" s_law) rfl
  have e := hfa.symm.trans (He.glo_ok X G (c.fact 32 (f := .glo "law") rfl))
  cases e
  have bnd := FunD.bindsA (ps := ["script"]) F_law fun _ _ _ _ _ _ us hl => match us, hl with | [_], _ => rfl
  have T0 : Bl mg := ⟨He.free_ok X G (c.fact 53 (f := .free "len") rfl), He.free_ok X G (c.fact 54 (f := .free "range") rfl), He.free_ok X G (c.fact 55 (f := .free "abs") rfl), He.free_ok X G (c.fact 56 (f := .free "int") rfl), He.free_ok X G (c.fact 57 (f := .free "max") rfl), He.free_ok X G (c.fact 58 (f := .free "all") rfl), He.free_ok X G (c.fact 59 (f := .free "isinstance") rfl), He.free_ok X G (c.fact 60 (f := .free "set") rfl), He.free_ok X G (c.fact 61 (f := .free "list") rfl), He.free_ok X G (c.fact 62 (f := .free "tuple") rfl), He.free_ok X G (c.fact 63 (f := .free "bool") rfl), He.free_ok X G (c.fact 64 (f := .free "str") rfl), He.free_ok X G (c.fact 65 (f := .free "enumerate") rfl), He.int_ok X G (c.fact 68 (f := .int "MOST_KINDS" 8) rfl), He.int_ok X G (c.fact 69 (f := .int "MOST_BRANCHES" 3) rfl), He.int_ok X G (c.fact 70 (f := .int "LONGEST_NAME" 8) rfl), He.str_ok X G (c.fact 73 (f := .str "LETTERS" "abcdefghijklmnopqrstuvwxyz") rfl)⟩
  have T1 : Bk mg := ⟨T0, He.free_ok X G (c.fact 66 (f := .free "zip") rfl), He.free_ok X G (c.fact 67 (f := .free "ValueError") rfl), He.str_ok X G (c.fact 74 (f := .str "HOLE" "*") rfl)⟩
  have T : Bm mg := ⟨T1, He.int_ok X G (c.fact 71 (f := .int "MOST_ENTRIES" 200) rfl), He.int_ok X G (c.fact 72 (f := .int "MOST_TRIMS" 8) rfl)⟩
  have B : BedT K (He.ga K "Bed") := ⟨He.cls_ok (c.fact 34 (f := .cls "Bed") rfl), He.noat_ok (c.fact 36 (f := .noat "Bed" "rows") rfl), He.noat_ok (c.fact 37 (f := .noat "Bed" "kinds") rfl), He.noat_ok (c.fact 38 (f := .noat "Bed" "widths") rfl), He.noat_ok (c.fact 39 (f := .noat "Bed" "ranks") rfl)⟩
  have BT : TrT K (He.ga K "Trim") := ⟨He.cls_ok (c.fact 42 (f := .cls "Trim") rfl), He.noat_ok (c.fact 44 (f := .noat "Trim" "bed") rfl), He.noat_ok (c.fact 45 (f := .noat "Trim" "stump") rfl), He.noat_ok (c.fact 46 (f := .noat "Trim" "result") rfl)⟩
  have BS : TsT K (He.ga K "Trims") := ⟨He.cls_ok (c.fact 48 (f := .cls "Trims") rfl), He.noat_ok (c.fact 50 (f := .noat "Trims" "bed") rfl), He.noat_ok (c.fact 51 (f := .noat "Trims" "trims") rfl), He.noat_ok (c.fact 52 (f := .noat "Trims" "name") rfl)⟩
  obtain ⟨fd_init__, F_init__⟩ := c.def_ 33 (d := dM "Bed" "__init__" "Bed.__init__" s_init__) rfl
  obtain ⟨fd_same, F_same⟩ := c.def_ 34 (d := dM "Bed" "same" "Bed.same" s_same) rfl
  obtain ⟨fd_Trim_init__, F_Trim_init__⟩ := c.def_ 35 (d := dM "Trim" "__init__" "Trim.__init__" s_Trim_init__) rfl
  obtain ⟨fd_Trims_init__, F_Trims_init__⟩ := c.def_ 36 (d := dK "Trims" "__init__" "Trims.__init__" s_Trims_init__ [("name", .str "trims")]) rfl
  have gBed := He.glo_ok X G (c.fact 33 (f := .glo "Bed") rfl)
  have mkBed := He.mkr_ok (c.fact 35 (f := .mkr "Bed") rfl)
  have gTrim := He.glo_ok X G (c.fact 41 (f := .glo "Trim") rfl)
  have mkTrim := He.mkr_ok (c.fact 43 (f := .mkr "Trim") rfl)
  have gTrims := He.glo_ok X G (c.fact 47 (f := .glo "Trims") rfl)
  have mkTrims := He.mkr_ok (c.fact 49 (f := .mkr "Trims") rfl)
  have mtSame := He.meth_ok (c.fact 40 (f := .meth "Bed" "same") rfl)
  refine ⟨fdL, fun s v => bnd s [v] rfl, fun base _ _ => ?_⟩
  have c_all_letters := ok_all_letters (P := TL.prog) (w := w) (base := base) T0 D_all_letters
  have c_is_name := ok_is_name (P := TL.prog) (w := w) (base := base) T0 c_all_letters D_is_name
  have c_check_pairs := ok_check_pairs (P := TL.prog) (w := w) (base := base) T0 c_is_name D_check_pairs
  have c_Bed : BedOk TL.prog w K mg base (He.ga K "Bed") 5 := by
    refine ⟨gBed, _, mkBed, ?_⟩
    obtain ⟨oc, od, dV, kV, doc, pm, an, cdv, ct, osl, rfl, lk, hcd, hdv, _⟩ := F_init__.ex
    have hd : dV = .none := by
      rcases hdv with ⟨_, h⟩ | h
      · exact h
      · exact absurd rfl h.1
    subst hd
    refine (StX.fn_star (ps := ["self"]) (pv := "kinds") lk hcd sc_init__ StX.cxUp_none (StX.bind_star1 (B := fun us => bindArgs (PySem.W.fnOf "__init__" "Bed.__init__" (defArgs s_init__) (defBody s_init__) (defScope s_init__) .none kV doc pm an cdv ct) ⟨us, []⟩) (fun _ => rfl) (fun _ _ _ => rfl)) (sp := spBedI (He.ga K "Bed")) (k := 3) fun A outer s H vs Q E hr hsp => ?_).mono (by decide)
    obtain ⟨t, a, b⟩ := body_bedI T0 B c_check_pairs hr hsp
    exact ⟨t, a.nox, b⟩
  have c_ends_of := ok_ends_of (P := TL.prog) (w := w) (base := base) T1 B D_ends_of
  have c_paths_of := ok_paths_of (P := TL.prog) (w := w) (base := base) T1 B D_paths_of
  have c_union_of := ok_union_of (P := TL.prog) (w := w) (base := base) T1 D_union_of
  have c_law_bag := ok_bagM (P := TL.prog) (w := w) (base := base) T0 D__law_bag
  have c_law_pick := ok_pick (P := TL.prog) (w := w) (base := base) T0 D__law_pick
  have c_law_word := ok_wordM (P := TL.prog) (w := w) (base := base) T0 c_law_pick D__law_word
  have c_law_words := ok_wordsM (P := TL.prog) (w := w) (base := base) T0 c_law_pick c_law_word D__law_words
  have c_law_bed := ok_bedM (P := TL.prog) (w := w) (base := base) T0 c_Bed D__law_bed
  have c_law_arity := ok_arity (P := TL.prog) (w := w) (base := base) T0 D__law_arity
  have c_law_kinds := ok_kindsM (P := TL.prog) (w := w) (base := base) T0 c_law_pick c_law_words D__law_kinds
  have c_law_stump := ok_stumpM (P := TL.prog) (w := w) (base := base) T0 c_law_pick D__law_stump
  have c_law_result := ok_resultM (P := TL.prog) (w := w) (base := base) T0 c_law_pick D__law_result
  have c_law_tame := ok_tameM (P := TL.prog) (w := w) (base := base) T0 c_law_pick D__law_tame
  have c_law_made := ok_madeM (P := TL.prog) (w := w) (base := base) T0 c_law_pick c_law_tame c_law_stump c_law_result D__law_made
  have c_fault_place := ok_fault_placeM (P := TL.prog) (w := w) (base := base) T1 B D_fault_place
  have c_knots_in := ok_knots (P := TL.prog) (w := w) (base := base) T1 B D_knots_in
  have c_result_fault := ok_result_fault (P := TL.prog) (w := w) (base := base) T1 c_fault_place D_result_fault
  have c_check_trim := ok_check_trim (P := TL.prog) (w := w) (base := base) T c_fault_place c_result_fault c_knots_in D_check_trim
  have c_law_tagged := ok_tagged (P := TL.prog) (w := w) (base := base) T D__law_tagged
  have c_with_tags := ok_with_tags (P := TL.prog) (w := w) (base := base) T D_with_tags
  have c_law_stops := ok_stops (P := TL.prog) (w := w) (base := base) T D__law_stops
  have c_law_union := ok_unionM (P := TL.prog) (w := w) (base := base) T c_law_stops D__law_union
  have c_law_paths := ok_pathsM (P := TL.prog) (w := w) (base := base) T D__law_paths
  have c_law_same := ok_sam (P := TL.prog) (w := w) (base := base) T D__law_same 4
  have c_same : SmOk TL.prog w K mg base (He.ga K "Bed") := ok_same B F_same mtSame
  have c_check_beds := ok_check_beds (P := TL.prog) (w := w) (base := base) T B c_same D_check_beds
  have c_Trim : TrimC TL.prog w K mg base (He.ga K "Bed") (He.ga K "Trim") 4 := by
    have G : FnOk TL.prog w K mg base CX0 4 _ _ ["self", "bed", "stump", "result"] (spTrimI (He.ga K "Bed") (He.ga K "Trim")) := F_Trim_init__.ok sc_Trim_init__ (fun vs H Q E h => by obtain ⟨x, dx, b, t, u, rows, q, rfl, _⟩ := h; rfl) fun cdv A outer s H vs Q E hr h => body_trimI T BT c_check_trim hr h
    refine ⟨gTrim, _, mkTrim, fun A' outer s H us vs Q E hr e0 r hs => G.raw (F_Trim_init__.bindsN fun _ _ _ _ _ _ us hl => match us, hl with | [_, _, _, _], _ => rfl) .nil A' outer s H us vs Q E hr e0 r ?_⟩
    show spTrimI _ _ (vs ++ []) H Q E
    rw [List.append_nil]
    exact hs
  have c_Trims : TrimsC TL.prog w K mg base (He.ga K "Bed") (He.ga K "Trim") (He.ga K "Trims") 4 :=
    ⟨gTrims, _, mkTrims, F_Trims_init__.starK (ps := ["self", "bed"]) (pv := "trims") sc_Trims_init__ StX.cxUp_none (fun D doc pm an cdv ct u us rest hl => match us, rest, hl with
      | [_, _], [], _ => ⟨_, _, _, _, _, _, rfl, rfl, rfl⟩
      | [_, _], _ :: _, _ => ⟨_, _, _, _, _, _, rfl, rfl, rfl⟩) fun cdv A outer s H vs Q E hr h => body_trimsI T BT BS c_check_beds hr h⟩
  have c_law_held := ok_held (P := TL.prog) (w := w) (base := base) T c_Trim c_Trims D__law_held
  have c_peak_plant := ok_peak_plant (P := TL.prog) (w := w) (base := base) (C := He.ga K "Bed") T BT BS c_union_of c_with_tags D_peak_plant
  have c_peaks := ok_peaks (P := TL.prog) (w := w) (base := base) T BT BS c_ends_of c_paths_of c_peak_plant D_peaks
  have c_law_peaks := ok_peaksM (P := TL.prog) (w := w) (base := base) T c_law_stops c_law_paths c_law_union c_law_tagged D__law_peaks
  exact ok_law T c_law_bag c_law_pick c_law_kinds c_law_arity c_law_bed c_law_made c_law_held c_law_peaks c_law_same c_peaks F_law
end Sh
end
set_option Elab.async false
set_option linter.all false
set_option maxRecDepth 100000
set_option maxHeartbeats 4000000
open PySem PySem.W PySem.Calls PyProof.Rows
theorem PySem.Challenge.cw_shearyard_k33_peaks_in_order_holds : PySem.Challenge.rw_shearyard_k33_peaks_in_order.Holds := by
  w_on; o_law
  refine HandSHeadRun.head_any (r := OpenLaw.row PySem.Challenge.rw_shearyard_k33_peaks_in_order) (q := view (OpenLaw.row PySem.Challenge.rw_shearyard_k33_peaks_in_order).prog [63]) (H := Sh.hk) (ob := Sh.ob) (M := 9000) (loose := Sh.names) (d := HandSHeadRun.topDef (OpenLaw.row PySem.Challenge.rw_shearyard_k33_peaks_in_order).prog 63) (kwd := []) Sh.ob_eq
    (by kernel_rfl) (fun s => by kernel_rfl) Sh.run (by kernel_rfl) (by kernel_rfl) (by kernel_rfl) (by rfl) (by first | assumption | decide +kernel) (by decide +kernel) ⟨rfl, rfl, rfl, rfl, rfl, by decide +kernel⟩ ?hw ?hc
  case hw => w_witness2
  case hc =>
    refine L2.walk_ofE (l := PySem.Challenge.rw_shearyard_k33_peaks_in_order) (n := 63) (k := 11) (x := "script") (CX := L2.CX0) rfl (by decide) (by kernel_rfl) ⟨rfl, by decide, by decide⟩ ?F (fun _ _ _ _ z => z)
    intro w mg fa h Y G hmg0
    obtain ⟨K, KX, c, x1, x2, x3⟩ := Y
    have hmg : mg ("law" : PySem.Str) = some (.ref fa) := by
      have e : (HandSHeadRun.topDef (OpenLaw.row PySem.Challenge.rw_shearyard_k33_peaks_in_order).prog 63).name = ("law" : PySem.Str) := by kernel_rfl
      rw [← e]
      exact hmg0
    obtain ⟨fd, hb, hF⟩ := Sh.facts (w := w) KX G hmg c
    exact ⟨K, fd, Sh.spLaw K, KX, hb, fun H a ns hn _ hS => ⟨a, ns, rfl, hS, hn, fun _ => rfl⟩, hF⟩
