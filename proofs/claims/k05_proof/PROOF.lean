import PyProof.Rows.All
import Wide.All
import OpenK.AllK
import Wide.FinOn
import HandS.ForMost
import HandS.Exc
import HandS.ExcInit
import HandS.Star
import HandS.TupAny
import HandS.TupMul
import HandS.SetKeys
import HandS.DictComp
import HandS.IsInst
import HandS.Defaults
import HandS.WordsExc
import KE.GoesEnum
import KE.KExcSuper
import HandS.Evl
import HandS.Codes
import HandS.ReCall
import HandS.TryMany
import HandS.ExcOwn
import HandS.ExcField
import HandS.HeadHook1
import HandS.HeadHook2
import HandS.ExcIs
import KE.KExcIs
import PyProof.EqKinds
import HandS.Nested
import KE.SortKeyHeap
import KE.DataMinKey
import KE.DataCmp
import HandS.HeadHook4
import HandS.HeadNt
import KE.KStateDown
import HandS.Ends
import HandS.Head0
import HandS.Head1
import HandS.Head2
import HandS.HeadEnd
import HandS.Walk
import HandS.Dict
import HandS.Iter
import HandS.Style
import HandS.Comp
import HandS.TupLe
import HandS.MakeKwOnly
import HandS.Conv
import HandS.HotCalls
import HandS.MakeKw
import HandS.Rev
import KE.KRevIter
import OpenK.KOps
import HandS.ClsMeth
import PyProof.Rows.StrCase
import PyProof.FString
import PyProof.FString4
import PyProof.FitsInt
import PyProof.StrLawsRepr
import HandS.HeadWalk
import PySem.Challenge.RW_shearyard_k05_readers_follow_their_rows
section
set_option Elab.async false
set_option linter.all false
set_option maxRecDepth 100000
set_option maxHeartbeats 4000000
namespace L2
open PySem PySem.Spec PyProof.Rows
section
variable {X : Cx}
theorem tuple_mul0 (l : Addr) (items : Array Value) (n : Nat) (dd : Option Addr) (sl : Array (Option Value)) (x : Int) (u : Tok) (c0 : (decide (x < -(2 ^ 63)) || decide (x ≥ 2 ^ 63)) = false) (c1 : (items.isEmpty || x == 1) = false) (c2 : (decide (x ≤ 0) || items.isEmpty) = true) :
    Meets (Builtin.«tuple.__mul__» ⟨[.ref l, .int x u], []⟩) (fun _ R s => s.heap.get? l = some { cls := .type "tuple", dict := dd, data := .seq items n, slots := sl } ∧
      R (.ok (.ret (Value.ref s.heap.objs.size))) { s with heap := s.heap.push { cls := Value.type "tuple", data := Data.seq #[] }, toks := s.toks }) :=
  .of_wp fun prog w A R s h => by
    obtain ⟨hp, g, d, tk, os⟩ := s
    obtain ⟨hl, h⟩ := h
    have f1 := AutoSeq1.idx_int
    wp_walk using wpAny_loadPart' hl
    repeat (first
      | (refine wpAny_ite_false (decide_eq_false (by rw [c0]; exact Bool.false_ne_true)) ?_; wp_walk using wpAny_loadPart' hl)
      | (refine wpAny_ite_false (decide_eq_false (by rw [c1]; exact Bool.false_ne_true)) ?_; wp_walk using wpAny_loadPart' hl)
      | (refine wpAny_ite_true (decide_eq_true c2) ?_; wp_walk using wpAny_loadPart' hl))
    exact ⟨_, rfl, h⟩
theorem tuple_mul1 (l : Addr) (items : Array Value) (n : Nat) (sl : Array (Option Value)) (dd : Option Addr) (x : Int) (u : Tok) (c0 : (decide (x < -(2 ^ 63)) || decide (x ≥ 2 ^ 63)) = false) (c1 : (items.isEmpty || x == 1) = true) :
    Meets (Builtin.«tuple.__mul__» ⟨[.ref l, .int x u], []⟩) (fun _ R s => s.heap.get? l = some { cls := .type "tuple", dict := dd, data := .seq items n, slots := sl } ∧ R (.ok (.ret (Value.ref l))) s) :=
  .of_wp fun prog w A R s h => by
    obtain ⟨hp, g, d, tk, os⟩ := s
    obtain ⟨hl, h⟩ := h
    have f1 := AutoSeq1.idx_int
    wp_walk using wpAny_loadPart' hl
    repeat (first
      | (refine wpAny_ite_false (decide_eq_false (by rw [c0]; exact Bool.false_ne_true)) ?_; wp_walk using wpAny_loadPart' hl)
      | (refine wpAny_ite_true (decide_eq_true c1) ?_; wp_walk using wpAny_loadPart' hl))
    exact ⟨_, rfl, h⟩
def rRepG (K : PySem.W.Frag) : R2 := fun x y H Q => ∃ l k xs, x = .ref l ∧ y = .int k ∧ SqT K H l xs ∧ xs ≠ [] ∧ 0 ≤ k ∧ k ≤ 4000 ∧ xs.length ≤ 100 ∧ (k = 1 → Q (.ref l) H) ∧ (k ≠ 1 → ∀ p, H p = none → Q (.ref p) (upd H p (.tup (List.replicate k.toNat xs).flatten)))
theorem op_repG : OpR X (binaryOp .Mult) (rRepG X.K) := by
  intro pins s σ H x y v u Q I rx ry h
  obtain ⟨l, k, xs, rfl, rfl, hT, hne, h1, h2, hz, qs, qn⟩ := h
  cases rx
  obtain ⟨t, rfl⟩ := ry
  obtain ⟨its, r, ⟨⟨cls, dd, data, sl⟩, ho, hc, n, hd⟩, hs⟩ := I.tuple hT
  simp only at hc hd
  subst hc hd
  have hle : its.length = xs.length := r.length.symm
  have hn : its ≠ [] := fun e => hne (by
    rw [e] at hle
    exact List.eq_nil_of_length_eq_zero hle.symm)
  have hi : its.toArray.isEmpty = false := by
    cases its with
    | nil => exact absurd rfl hn
    | cons a b => rfl
  have hsz0 : its.toArray.size = xs.length := by rw [List.size_toArray, hle]
  have c0 : (decide (k < -(2 ^ 63)) || decide (k ≥ 2 ^ 63)) = false := by
    rw [decide_eq_false (by omega), decide_eq_false (by omega)] <;> rfl
  by_cases e1 : k = 1
  · have c1 : (its.toArray.isEmpty || k == 1) = true := by
      rw [hi, Bool.false_or]
      exact beq_iff_eq.mpr e1
    refine wpAny_binaryOp_repeat_ref (T := "tuple") (U := "int") (by decide) ⟨_, ho, rfl⟩ (fun s' => typeIs_int s' k t) noFill_tuple_mul F.fills_int_mul F.slot_int_rmul repeat_tuple F.slot_int_index.lookup
      (call_meets F.slot_int_rmul (typeIs_int s k t) F.entry_int_rmul (F.args_int_rmul_2 _ _) (int_rmul_tuple k t l its.toArray n dd sl)
        ⟨ho, rfl, ⟨_, ho, rfl⟩, call_meets F.slot_tuple_mul ⟨_, ho, rfl⟩ F.entry_tuple_mul (F.args_tuple_mul_2 _ _) (tuple_mul1 l its.toArray n sl dd k t c0 c1) ⟨ho, ?_⟩⟩)
    exact ⟨.ref l, H, I, rfl, qs e1⟩
  · have c1 : (its.toArray.isEmpty || k == 1) = false := by
      rw [hi, Bool.false_or]
      exact beq_eq_false_iff_ne.mpr e1
    by_cases e0 : k = 0
    · subst e0
      refine wpAny_binaryOp_repeat_ref (T := "tuple") (U := "int") (by decide) ⟨_, ho, rfl⟩ (fun s' => typeIs_int s' 0 t) noFill_tuple_mul F.fills_int_mul F.slot_int_rmul repeat_tuple F.slot_int_index.lookup
        (call_meets F.slot_int_rmul (typeIs_int s 0 t) F.entry_int_rmul (F.args_int_rmul_2 _ _) (int_rmul_tuple 0 t l its.toArray n dd sl)
          ⟨ho, rfl, ⟨_, ho, rfl⟩, call_meets F.slot_tuple_mul ⟨_, ho, rfl⟩ F.entry_tuple_mul (F.args_tuple_mul_2 _ _) (tuple_mul0 l its.toArray n dd sl 0 t c0 c1 rfl) ⟨ho, ?_⟩⟩)
      refine ⟨.ref s.heap.objs.size, _, I.laid (t' := s.toks) (o := .tup (List.replicate (0 : Int).toNat xs).flatten) (fun b ob q => Heap.get?_push_of_some _ q) (Nat.le_refl _) ?_, rfl, qn (by decide) _ (I.hok.fresh (Nat.le_refl _))⟩
      exact ⟨by rw [sizeLine_eq]; exact Nat.zero_le _, [], .nil, IsTup.new _ _⟩
    · have hm : ((its.toArray.size : Nat) : Int) * k ≤ 400000 := by
        rw [hsz0]
        have a1 : ((xs.length : Nat) : Int) * k ≤ 100 * k := Int.mul_le_mul_of_nonneg_right (by omega) (by omega)
        omega
      have flen : (List.replicate k.toNat its).flatten.length ≤ sizeLine := by
        rw [PyProof.Rows.lm_len_rep_flat, hle, sizeLine_eq]
        have a1 : k.toNat * xs.length ≤ 4000 * 100 := Nat.mul_le_mul (by omega) hz
        omega
      have c2 : (decide (k ≤ 0) || its.toArray.isEmpty) = false := by
        rw [hi, Bool.or_false]
        exact decide_eq_false (by omega)
      have c4 : Builtin.Tuple.tupleTooMany (((its.toArray.size : Nat) : Int) * k) = false := by
        unfold Builtin.Tuple.tupleTooMany
        rw [sizeLine_eq]
        exact decide_eq_false (by omega)
      refine wpAny_binaryOp_repeat_ref (T := "tuple") (U := "int") (by decide) ⟨_, ho, rfl⟩ (fun s' => typeIs_int s' k t) noFill_tuple_mul F.fills_int_mul F.slot_int_rmul repeat_tuple F.slot_int_index.lookup
        (call_meets F.slot_int_rmul (typeIs_int s k t) F.entry_int_rmul (F.args_int_rmul_2 _ _) (int_rmul_tuple k t l its.toArray n dd sl)
          ⟨ho, rfl, ⟨_, ho, rfl⟩, call_meets F.slot_tuple_mul ⟨_, ho, rfl⟩ F.entry_tuple_mul (F.args_tuple_mul_2 _ _) (tuple_mulW l its.toArray n dd sl k t c0 c1 c2 (by omega) c4 (by rw [size_rep, List.size_toArray]; exact flen)) ⟨ho, ?_⟩⟩)
      rw [size_rep]
      refine ⟨.ref s.heap.objs.size, _, I.laid (t' := s.toks) (o := .tup (List.replicate k.toNat xs).flatten) (fun b ob q => Heap.get?_push_of_some _ q) (Nat.le_refl _) ?_, rfl, qn e1 _ (I.hok.fresh (Nat.le_refl _))⟩
      exact ⟨by rw [PyProof.Rows.lm_len_rep_flat, sizeLine_eq]; have a1 : k.toNat * xs.length ≤ 4000 * 100 := Nat.mul_le_mul (by omega) hz; omega, _, r.rep k.toNat, IsTup.new _ _⟩

def tCallR (sp : Sp) (E : XK) (t : TA) : TE := fun σ H Q => t σ H fun vs H1 => sp vs H1 Q E
theorem pe_callR {CX : CXT} {k : Nat} {f : Addr} {x : Str} {sp : Sp} {E : XK} {e : Expr} {es : List Expr} {t : TA} {p pos : Pos} (F : FnR X.prog X.w X.K X.mg X.base CX k f sp) (hr : Room k X.A) (hk : PySem.W.keepIn X.K (.ref f) = true) (hm : X.mg x = some (.ref f)) (hx : Passes CX X E) (ha : PA X (e :: es) t)
    (hg : Gl X x) (hd : (x == ("__debug__" : Str)) = false)
    (he : starEach (e :: es) X.env = (false, eval e X.env) :: starEach es X.env) (hpl : (backTo pos (starEach es X.env)).any (·.1) = false) :
    PE X (.Call (.Name x p) (e :: es) [] pos) (tCallR sp E t) := by
  refine ⟨fun pins s σ H Q I h => ?_⟩
  refine wpAny_Call_Name_kw (ld_glob I hg hm ?_ hd)
  refine PySem.W.callWith_K (h₀ := X.base) I.ok.mod.kin hk (thn (ha.run pos pins s σ H _ I h) fun us s1 ⟨vs, H1, I1, r, q⟩ => ⟨I1.kIn, ?_⟩) he hpl
  exact wpAny_call (run_fnR F hr hx I1 r q)
end
end L2
namespace Sh
open PySem PySem.Spec PyProof.Rows L2
def DefOk (P : Program) (w : World) (K : PySem.W.Frag) (mg : Str → Option Value) (base : Heap) (CX : CXT) (k : Nat) (x : Str) (sp : Sp) : Prop :=
  ∃ f, mg x = some (.ref f) ∧ PySem.W.keepIn K (.ref f) = true ∧ FnR P w K mg base CX k f sp
/-- where a def stands -/
def Def0 (K : PySem.W.Frag) (mg : Str → Option Value) (x : Str) (st : Stmt) : Prop := ∃ f fd, mg x = some (.ref f) ∧ FunD K x x (defArgs st) (defBody st) (defScope st) [] [] f fd
section
variable {P : Program} {w : World} {K : PySem.W.Frag} {mg : Str → Option Value} {base : Heap} {k j : Nat} {x : Str} {sp : Sp} {st : Stmt}
theorem DefOk.mono {CX : CXT} (D : DefOk P w K mg base CX j x sp) (h : j ≤ k) : DefOk P w K mg base CX k x sp := by
  obtain ⟨f, a, b, c⟩ := D
  exact ⟨f, a, b, c.mono h⟩
theorem DefOk.imp {CX : CXT} {sp' : Sp} (D : DefOk P w K mg base CX k x sp) (h : ∀ vs H Q E, sp' vs H Q E → sp vs H Q E) : DefOk P w K mg base CX k x sp' := by
  obtain ⟨f, a, b, c⟩ := D
  exact ⟨f, a, b, c.imp h⟩
theorem pe_d {X : Cx} {CX : CXT} {E : XK} {e : Expr} {es : List Expr} {t : TA} {p pos : Pos} (D : DefOk X.prog X.w X.K X.mg X.base CX k x sp) (hr : Room k X.A) (hx : Passes CX X E) (ha : PA X (e :: es) t)
    (hg : Gl X x := by rfl) (hd : (x == ("__debug__" : Str)) = false := by decide)
    (he : starEach (e :: es) X.env = (false, eval e X.env) :: starEach es X.env := by rfl) (hpl : (backTo pos (starEach es X.env)).any (·.1) = false := by rfl) :
    PE X (.Call (.Name x p) (e :: es) [] pos) (tCallR sp E t) := by
  obtain ⟨f, a, b, c⟩ := D
  exact pe_callR c hr b a hx ha hg hd he hpl
/-- a def without defaults that raises nothing -/
theorem Def0.ok {N ps : List Str} (D : Def0 K mg x st) (S : FnScope N ps (defScope st)) (len : ∀ vs H Q E, sp vs H Q E → vs.length = ps.length)
    (hb : ∀ (kV doc pm : Value) (an : Option Addr) (cdv ct : Value) (us : List Value), us.length = ps.length → bindArgs (PySem.W.fnOf x x (defArgs st) (defBody st) (defScope st) .none kV doc pm an cdv ct) ⟨us, []⟩ = pure (ps.zip us))
    (hbody : ∀ (f : Addr) (cdv : Value) (A : Around) (outer : List Env) (s : Shared) (H : Hp) (vs : List V) (Q : VK) (E : XK), Room k (A.deeper (envOfC x (defScope st) s.heap.objs.size f cdv)) → sp vs H Q E →
      ∃ t, PSs (cxOf CX0 P w K mg base N x (defScope st) f cdv A outer s H E).nox (defBody st) t ∧ t { nx := fun _ H' => Q .non H', rt := Q } (start N vs) H) : DefOk P w K mg base CX0 (k + 1) x sp := by
  obtain ⟨f, fd, hm, F⟩ := D
  have G : FnOk P w K mg base CX0 (k + 1) f fd ps sp := F.ok S len fun cdv A outer s H vs Q E hr h => by
    obtain ⟨t, a, b⟩ := hbody f cdv A outer s H vs Q E hr h
    exact ⟨t, a.nox, b⟩
  have B : Binds K fd ps [] := F.bindsN hb
  refine ⟨f, hm, F.kp, fun A outer s H us vs Q E hr e0 r hs => G.raw B .nil A outer s H us vs Q E hr e0 r (by show sp (vs ++ []) H Q E; rw [List.append_nil]; exact hs)⟩
/-- a def without defaults that may raise -/
theorem Def0.okX {N ps : List Str} (D : Def0 K mg x st) (S : FnScope N ps (defScope st)) (len : ∀ vs H Q E, sp vs H Q E → vs.length = ps.length)
    (hb : ∀ (kV doc pm : Value) (an : Option Addr) (cdv ct : Value) (us : List Value), us.length = ps.length → bindArgs (PySem.W.fnOf x x (defArgs st) (defBody st) (defScope st) .none kV doc pm an cdv ct) ⟨us, []⟩ = pure (ps.zip us))
    (hbody : ∀ (f : Addr) (cdv : Value) (A : Around) (outer : List Env) (s : Shared) (H : Hp) (vs : List V) (Q : VK) (E : XK), Room k (A.deeper (envOfC x (defScope st) s.heap.objs.size f cdv)) → sp vs H Q E →
      ∃ t, PSs (cxOf (L2.CX P w) P w K mg base N x (defScope st) f cdv A outer s H E) (defBody st) t ∧ t { nx := fun _ H' => Q .non H', rt := Q } (start N vs) H) : DefOk P w K mg base (L2.CX P w) (k + 1) x sp := by
  obtain ⟨f, fd, hm, F⟩ := D
  have G : FnOk P w K mg base (L2.CX P w) (k + 1) f fd ps sp := F.ok S len fun cdv A outer s H vs Q E hr h => by
    obtain ⟨t, a, b⟩ := hbody f cdv A outer s H vs Q E hr h
    exact ⟨t, a, b⟩
  have B : Binds K fd ps [] := F.bindsN hb
  refine ⟨f, hm, F.kp, fun A outer s H us vs Q E hr e0 r hs => G.raw B .nil A outer s H us vs Q E hr e0 r (by show sp (vs ++ []) H Q E; rw [List.append_nil]; exact hs)⟩
end
end Sh
end
section
set_option Elab.async false
set_option linter.all false
set_option maxRecDepth 100000
set_option maxHeartbeats 2000000
namespace PySem
theorem meets_enum_oneB {v : Value} {o : Obj} {H : Heap → Prop} (B : Begins v o H) :
    Meets (Builtin.«enumerate.__new__» ⟨[.type "enumerate", v], []⟩) (fun _ R s => H s.heap ∧
      R (.ok (.ret (.ref (s.heap.push o).objs.size))) { s with heap := (s.heap.push o).push { cls := .type "enumerate", data := .fields #[.none, .bool false, .ref s.heap.objs.size, rawInt 0, .none, .none] } }) :=
  .of_wp fun prog w A R s hh => by
    obtain ⟨hp, g, d, tk, os⟩ := s
    obtain ⟨hb, hr⟩ := hh
    have hsub := sub_enumerate
    have begun : ∀ {A' : Around} {E : Value → Shared → Prop} {Q : Value → Shared → Prop}, Q (.ref hp.objs.size) ⟨hp.push o, g, d, tk, os⟩ → wpAny (model prog w) A' (pyIter v) Q E ⟨hp, g, d, tk, os⟩ :=
      fun q => B.iter prog w _ _ ⟨hp, g, d, tk, os⟩ _ hb q
    wp_walk using begun
    refine wpAny_stack_any fun st => wpAny_pure ?_
    split
    · rename_i c _ _ _ _ _
      cases (c == Value.type "enumerate")
      all_goals
        wp_walk using begun
        exact ⟨_, rfl, hr⟩
    · wp_walk using begun
      exact ⟨_, rfl, hr⟩
section
variable {prog : Program} {w : World} {A : Around} {E : Value → Shared → Prop} {s : Shared}
theorem enum_begins1 {v : Value} {o : Obj} {H : Heap → Prop} {Q : Value → Shared → Prop} (B : Begins v o H) (h1 : H s.heap)
    (h : ∀ h', IsEnum h' (s.heap.objs.size + 1) s.heap.objs.size 0 .none → h'.get? s.heap.objs.size = some o → h'.objs.size = s.heap.objs.size + 2 →
      (∀ b o, s.heap.get? b = some o → h'.get? b = some o) → Q (.ref (s.heap.objs.size + 1)) { s with heap := h' }) :
    wpAny (model prog w) A (call (.type "enumerate") [v]) Q E s := by
  refine callType_new F.called_enumerate (by decide) (F.typeCall_enumerate_1 _) (F.newCall_enumerate_1 _) (fun obj => F.args_object_init_2 obj _) F.entry_enumerate_new (meets_enum_oneB B) ⟨h1, ?_⟩
  have hz : (s.heap.push o).objs.size = s.heap.objs.size + 1 := Heap.size_push ..
  show _ ∧ _
  rw [hz]
  have he : IsEnum ((s.heap.push o).push { cls := .type "enumerate", data := .fields #[.none, .bool false, .ref s.heap.objs.size, rawInt 0, .none, .none] }) (s.heap.objs.size + 1) s.heap.objs.size 0 .none := by
    have q := Heap.get?_push_size (s.heap.push o) (o := { cls := .type "enumerate", data := .fields #[.none, .bool false, .ref s.heap.objs.size, rawInt 0, .none, .none] }) rfl
    rw [hz] at q
    exact q
  exact ⟨⟨_, he, rfl⟩, h _ he (Heap.get?_push_of_some _ (Heap.get?_push_size _ B.free)) (by rw [Heap.size_push, hz]) fun b o x => Heap.get?_push_of_some _ (Heap.get?_push_of_some _ x)⟩
theorem enum_endT {e it l : Addr} {i : Nat} {items : Array Value} {c : Int} {old : Value} {Q : Option Value → Shared → Prop} (hh : A.in1.handled = none)
    (he : IsEnum s.heap e it c old) (hit : s.heap.IsTupleIter it l i) (hl : s.heap.IsTuple l items) (hx : items[i]? = none)
    (hQ : ∀ h', Heap.ExtBut it s.heap h' → Q none { s with heap := h' }) : wpAny (model prog w) A (pyNext (.ref e)) Q E s := by
  have ht : s.TypeIs (.ref e) "enumerate" := ⟨_, he, rfl⟩
  unfold pyNext
  refine wpAny_bind (wpAny_attempt (wpAny_callSpecial?_slot (name := Str.ofString "__next__") ht F.slot_enumerate_next
    (wpAny_call_entry F.slot_enumerate_next ht F.entry_enumerate_next ?_ (F.args_enumerate_next_1 _))))
  show wpAny _ _ (field (.ref e) 2 >>= _) _ _ _
  refine wpAny_bind (wpAny_field he rfl (x := .ref it) rfl (wpAny_bind (wpAny_nextOf_tuple_end hh hit hl hx fun h' x he' hx' => ?_)))
  obtain ⟨o, ho, hc⟩ := hx'
  refine wpAny_bind (wpAny_isInstance (T := "StopIteration") (b := true) ⟨o, ho, hc⟩ isSubtype_stop ?_)
  exact wpAny_pure (hQ _ he')
end
end PySem
namespace L2
open PySem PySem.Spec PyProof.Rows
/-- the tuple at a as it stands at each turn, each item in a new pair -/
def IteT (K : PySem.W.Frag) (a : Addr) : It :=
  ⟨fun i H => ∃ (xs : List V) (x : V), SqT K H a xs ∧ xs[i]? = some x, fun i H v H' => ∃ T x, v = .ref T ∧ H T = none ∧ H' = upd H T (.tup [.int (i : Nat), x]) ∧ ∀ xs, SqT K H a xs → xs[i]? = some x, fun i H => ∃ xs : List V, SqT K H a xs ∧ xs.length ≤ i⟩
theorem turn_enumT {P : Program} {w : World} {K : PySem.W.Frag} {elts : List Expr} {kk : Nat} {tpos : Pos} (a e it : Addr) (ha : a ≠ it) (hae : a ≠ e) :
    Turn P w K (.Tuple elts kk tpos) (IteT K a) [e, it] e (fun i h => (∃ old, IsEnum h e it ((i : Nat) : Int) old) ∧ h.IsTupleIter it a i ∧ e ≠ it) where
  mem := by simp
  obj := fun i h st b hb => by
    obtain ⟨⟨old, he⟩, ⟨o, ho, hc, hd⟩, _⟩ := st
    have e' : b = e ∨ b = it := by simpa using hb
    rcases e' with z | z
    · rw [z]; exact ⟨_, he, fun v q => nomatch q⟩
    · rw [z]; exact ⟨o, ho, fun v q => by rw [hd] at q; cases q⟩
  keep := fun i h h' st k => let ⟨⟨old, he⟩, hi, hne⟩ := st; ⟨⟨old, k e (by simp) _ he⟩, hi.at fun o q => k it (by simp) o q, hne⟩
  item := by
    intro X hP hw hK hc i pins s σ H E I hf st hg
    subst hP hw hK
    obtain ⟨⟨old, he⟩, hit, hne⟩ := st
    obtain ⟨xs, x, hq, hx⟩ := hg
    obtain ⟨its, rv, p, hz⟩ := I.tuple hq
    obtain ⟨u, hu, ru⟩ := rv.get hx
    have hil : i < its.toArray.size := by
      have z := (List.getElem?_eq_some_iff.mp hu).1
      simpa using z
    have D := Draws.tuple (prog := X.prog) (w := X.w) (A := X.A.in1) (I.ok.hd hc) it a ha its.toArray
    have hel : e < s.heap.objs.size := Heap.lt_size he
    have hill : it < s.heap.objs.size := by obtain ⟨_, q, _⟩ := hit; exact Heap.lt_size q
    refine wpAny_pyNext_enum_itemD D he ⟨hit, p⟩ hil hne (by simp [hne, Ne.symm hae]) fun x1 h' tk hP ho hit' hT hsz hk => ?_
    obtain rfl : x1 = u := by
      have z : its.toArray[i]? = some x1 := hP
      have z2 : its[i]? = some x1 := by simpa using z
      rw [hu] at z2
      exact (Option.some.inj z2).symm
    refine ⟨_, rfl, wpAny_letOwnedTupleGo_enum (s := { s with heap := h', toks := tk + 1 }) ho fun h'' he' sb => ?_⟩
    have hT2 : h''.get? s.heap.objs.size = some { cls := .type "tuple", data := .seq #[.int i tk, x1] } := (sb.2 _ (Nat.ne_of_gt hel)).trans hT
    have new : ObjOk X.prog X.w (upd H s.heap.objs.size (.tup [.int (i : Nat), x])) h'' s.heap.objs.size (.tup [.int (i : Nat), x]) :=
      ⟨by show 2 ≤ sizeLine; decide, [.int i tk, x1], .cons ⟨_, rfl⟩ (.cons ru .nil), ⟨_, hT2, rfl, _, rfl⟩⟩
    have I1 : Inv X pins σ (upd H s.heap.objs.size (.tup [.int (i : Nat), x])) { s with heap := h'', toks := tk + 1 } :=
      I.turnedNew (ch := [e, it]) (fun b ob hb q => (sb.2 b (fun z => hb (by simp [z]))).trans (hk b ob (fun z => hb (by simp [z])) (fun z => hb (by simp [z])) q)) hf (Nat.le_refl _) new
    refine ⟨.ref s.heap.objs.size, _, I1, rfl, ⟨_, x, rfl, I.hok.fresh (Nat.le_refl _), rfl, fun ys hy => by rw [I.tuple_inj hy hq]; exact hx⟩, ⟨⟨x1, ?_⟩, hit'.1.at fun o q => (sb.2 it (Ne.symm hne)).trans q, hne⟩, fun b hb => ?_⟩
    · have e1 : ((i + 1 : Nat) : Int) = (i : Int) + 1 := by omega
      rw [e1]; exact he'
    · have hb' : b < s.heap.objs.size := by
        have e' : b = e ∨ b = it := by simpa using hb
        rcases e' with z | z
        · rw [z]; exact hel
        · rw [z]; exact hill
      rw [upd_ne (Nat.ne_of_lt hb')]
      exact (hf b hb).1
  done := by
    intro X hP hw hK hc i pins s σ H E I hf st hg
    subst hP hw hK
    obtain ⟨⟨old, he⟩, hit, hne⟩ := st
    obtain ⟨xs, hq, hx⟩ := hg
    obtain ⟨its, rv, p, hz⟩ := I.tuple hq
    obtain ⟨f0, f1, f2, f3, f4, f5⟩ := hf it (by simp)
    have hl := rv.length
    exact enum_endT (I.ok.hd hc) he hit (show s.heap.IsTuple a its.toArray from p) (by simp; omega) fun h' eb => ⟨rfl, I.turned (t' := s.toks) (fun b o hb q => eb b o hb q) f0 f1 f3 f4 f5⟩
  self := fun A i s Q E st h => let ⟨⟨_, he⟩, _⟩ := st; wpAny_pyIter_enum he h
def iEnumT (K : PySem.W.Frag) (ta : TA) : TI := fun σ H R => ta σ H fun vs H1 => ∃ a xs, vs = [.ref a] ∧ SqT K H1 a xs ∧ R (IteT K a) H1
theorem pi_enumT {X : Cx} {e : Expr} {ta : TA} {p pos tpos : Pos} {elts : List Expr} {kk : Nat} (hg : Gl X "enumerate") (hm : X.mg "enumerate" = none) (ha : PA X [e] ta) (hs : starEach [e] X.env = [(false, eval e X.env)] := by rfl) :
    PI X (.Tuple elts kk tpos) (.Call (.Name "enumerate" p) [e] [] pos) (iEnumT X.K ta) := by
  refine ⟨fun pins s σ H R I h => ?_⟩
  refine Call_ (ld_blt I hg hm boot_enumerate (PyProof.Rows.callWith_type1 (thn (ha.run pos pins s σ H _ I h) fun us s1 ⟨vs, H1, I1, r1, q1⟩ => ?_) hs rfl))
  obtain ⟨a, xs, ex, hq, q⟩ := q1
  subst ex
  cases r1 with
  | cons r rr =>
    cases rr
    cases r
    obtain ⟨its, rv, p', hz⟩ := I1.tuple hq
    have hal : a < s1.heap.objs.size := by obtain ⟨_, z, _⟩ := p'; exact Heap.lt_size z
    refine enum_begins1 (begins_tuple a its.toArray) p' fun h' he hit hsz hk => wpAny_pyIter_enum he ?_
    have I2 : Inv X pins σ H1 { s1 with heap := h' } := I1.kept (t' := s1.toks) hk
    refine ⟨s1.heap.objs.size + 1, [s1.heap.objs.size + 1, s1.heap.objs.size], _, _, H1, rfl, I2, turn_enumT a (s1.heap.objs.size + 1) s1.heap.objs.size (Nat.ne_of_lt hal) (Nat.ne_of_lt (Nat.lt_succ_of_lt hal)), ⟨⟨.none, he⟩, ⟨_, hit, rfl, rfl⟩, Nat.succ_ne_self _⟩, fun b hb => ?_, q⟩
    have e' : b = s1.heap.objs.size + 1 ∨ b = s1.heap.objs.size := by simpa using hb
    have hle : s1.heap.objs.size ≤ b := by
      rcases e' with z | z
      · rw [z]; exact Nat.le_add_right _ _
      · rw [z]; exact Nat.le_refl _
    exact I1.fpOk hle (I1.hok.fresh hle)
end L2
end
section
set_option Elab.async false
set_option linter.all false
set_option maxRecDepth 100000
set_option maxHeartbeats 2000000
namespace PySem
namespace SupX
open PySem.W PySem.Calls PyProof.Rows PySem.HandSPX

structure StP where
  f : Str
  q1 : Pos
  q2 : Pos
  q3 : Pos
  q4 : Pos
def stB : List StP → List Stmt
  | [] => []
  | z :: r => .Assign [.Attribute (.Name "self" z.q1) z.f z.q2] (.Name z.f z.q3) z.q4 :: stB r
def iB (msg : Expr) (p0 p1 p2 p3 p4 : Pos) (l : List StP) : List Stmt :=
  .Expr (.Call (.Attribute (.Call (.Name "super" p0) [] [] p1) "__init__" p2) [msg] [] p3) p4 :: stB l
def putAll : List (Str × Value) → (Str → Option Value) → (Str → Option Value)
  | [], m => m
  | (f, v) :: r, m => putAll r (fun y => if y = f then some v else m y)
/-- the message's expression gives some value and writes nothing -/
def MsgOk (prog : Program) (w : World) (env : Env) (m : Str → Option Value) (msg : Expr) : Prop :=
  ∀ (A : Around) (E : Value → Shared → Prop) (s : Shared) (Q : Value → Shared → Prop), s.heap.Ns env.locals m → (∀ v t, Q v { s with toks := t }) → wpAny (model prog w) A (eval msg env) Q E s

theorem lookup_nd {k : Str} {v : Value} : ∀ {l : List (Str × Value)}, (l.map (·.1)).Nodup → (k, v) ∈ l → l.lookup k = some v
  | [], _, h => nomatch h
  | (a, b) :: r, nd, h => by
    rw [List.map_cons, List.nodup_cons] at nd
    rcases List.mem_cons.mp h with e | e
    · cases e
      simp [List.lookup]
    · have ne : ¬ k = a := fun z => nd.1 (by rw [← z]; exact List.mem_map_of_mem (f := (·.1)) e)
      have nb : (k == a) = false := by simpa using ne
      show (match k == a with | true => some b | false => r.lookup k) = some v
      rw [nb]
      exact lookup_nd nd.2 e
theorem lookup_rev {k : Str} {v : Value} {l : List (Str × Value)} (nd : (l.map (·.1)).Nodup) (h : (k, v) ∈ l) : l.reverse.lookup k = some v :=
  lookup_nd (by rw [List.map_reverse]; exact List.pairwise_reverse.mpr (List.Pairwise.imp (fun z => Ne.symm z) nd)) (List.mem_reverse.mpr h)

section
variable {prog : Program} {w : World} {M : Model} {A : Around} {E : Value → Shared → Prop} {R : Result → Shared → Prop} {s : Shared} {K : Frag}
theorem ldK {name : Str} {scope : Scope} {L a : Addr} {cd : Value} {cells : List (Str × Addr)} {m : Str → Option Value} {x : Str} {pos : Pos} {v : Value} {Q : Value → Shared → Prop}
    (hn : s.heap.Ns L m) (hv : m x = some v) (h : Q v s) (hk : scope.kind = .function) (hl : scope.names.lookup x = some .local) (hd : (x == ("__debug__" : Str)) = false) :
    wpAny M A (eval (.Name x pos) (envX name scope L a cd cells)) Q E s := wpAny_Name (wpAny_loadName_local (env := envX name scope L a cd cells) hk hl hn hv h) hd

/-- the method-wrapper of ValueError.__init__ called on the fresh exception -/
theorem call_mw {h : Heap} {g : Array GenState} {d : Drawn} {t : Nat} {os : OsState} {nm q : Str} {C N : Addr} {bs bm : List Value} {hdct : Bool} {sn : List Str} {sub : List Value} {ab : Bool} {col : Option Bool} {dd : Option Addr} {k0 k1 k2 k3 k5 : Option Value}
    {u e t0 : Addr} {rest : List Value} {Q : Value → Shared → Prop} (hC : h.get? C = some (excClassObj nm q C N bs bm hdct sn sub ab col dd k0 k1 k2 k3 k5 "ValueError.__new__")) (hbm : refsVE bm = true)
    (he : h.get? e = some (excO C t0)) (hu : h.get? u = some (kxs_mw "ValueError.__init__" e)) (hrest : rest.length ≤ sizeLine)
    (hq : ∀ h' t1, (∀ b o, b ≠ e → h.get? b = some o → h'.get? b = some o) → h'.get? e = some (excO C t1) → Q .none ⟨h', g, d, t, os⟩) :
    wpAny (model prog w) A (call (.ref u) rest) Q E ⟨h, g, d, t, os⟩ := by
  refine wpAny_call (codeAny_of_tree ?_)
  show wpAny _ A.in1 (callAny (.ref u) ⟨rest, []⟩) _ _ _
  simp only [callAny]
  refine wpAny_bind (wpAny_load hu ?_)
  simp only [kxs_mw, show (Value.type "method-wrapper" == Value.type "method" || Value.type "method-wrapper" == Value.type "builtin_function_or_method" || Value.type "method-wrapper" == Value.type "method-wrapper") = true by decide, if_true]
  refine KFB.if_so (by decide) ?_
  refine wpAny_bind (check_bound_init F.excBase_ValueError.toExcCallFacts hC he rfl ?_)
  refine wpAny_bind (wpAny_pure (wpAny_pure ?_))
  refine ⟨Code.quiet_builtin _ (by decide +kernel), codeAny_builtin F.excBase_ValueError.initEntry ?_⟩
  rw [Around.under_plainId F.excBase_ValueError.init.plain _]
  wp_walk
  refine hq _ h.objs.size (fun b o hb ho => ?_) ?_
  · rw [Heap.get?_update_other _ _ (Ne.symm hb)]
    exact Heap.get?_push_of_some _ ho
  · rw [Heap.get?_update_self _ (Heap.get?_push_of_some _ he) rfl]
    rfl

/-- self.f = f, the further ones -/
theorem stores_old {name : Str} {scope : Scope} {L a C x dx : Addr} {cd : Value} {cells : List (Str × Addr)} {m : Str → Option Value} {fv : Array Value} {cdt : ClassData}
    (hk : scope.kind = .function) (hcd : clsIn K C = some cdt) (hm : refsVE cdt.mro = true) (hh : cdt.hasDict = true) (hsa : findIn K (.ref C) "__setattr__" = some (some (.builtin "object.__setattr__")))
    (hself : m "self" = some (.ref x)) (lself : scope.names.lookup ("self" : Str) = some .local) (hxL : x ≠ L) (hdL : dx ≠ L) (hnx : K.lookup x = none) (hnd : K.lookup dx = none) (hxd : x ≠ dx) :
    ∀ (l : List StP) (vs : List Value) (s : Shared) (m0 : Str → Option Value) (nl : List Str), vs.length = l.length → K.In s.heap → s.heap.Ns L m → s.heap.get? x = some { cls := .ref C, dict := some dx, data := .fields fv } → s.heap.Ns1 dx m0 → Within m0 nl → nl.length + l.length ≤ 900 →
      (∀ z ∈ l, scope.names.lookup z.f = some .local ∧ (z.f == ("__debug__" : Str)) = false ∧ findIn K (.ref C) z.f = some none) → (∀ (i : Nat) (z : StP) (v : Value), l[i]? = some z → vs[i]? = some v → m z.f = some v) →
      (∀ h' tk', (∀ b o, b ≠ dx → s.heap.get? b = some o → h'.get? b = some o) → h'.Ns1 dx (putAll ((l.map (·.f)).zip vs) m0) → R (.ok (.ret .none)) { s with heap := h', toks := tk' }) →
      wpAny (model prog w) A (execs (stB l) (envX name scope L a cd cells)) (fun fl s' => R (.ok (.ret (match fl with | .ret v => v | _ => .none))) s') E s := by
  intro l
  induction l with
  | nil =>
    intro vs s m0 nl hl X hn hx hns hw hz hloc hval hq
    cases vs with
    | cons _ _ => cases hl
    | nil => exact wpAny_execs_nil (hq s.heap s.toks (fun b o _ e => e) hns)
  | cons z r ih =>
    intro vs s m0 nl hl X hn hx hns hw hz hloc hval hq
    cases vs with
    | nil => cases hl
    | cons v vs =>
      obtain ⟨l1, l2, l3⟩ := hloc z List.mem_cons_self
      obtain ⟨oD, esD, epD, hoD, _, _⟩ := hns.count hw
      refine wpAny_execs_cons (plainObj_wpAny_Assign_Attribute ?_)
      refine ldK hn (hval 0 z v rfl rfl) ?_ hk l1 l2
      refine ldK hn hself ?_ hk lself (by decide)
      refine set_plain X (ox := { cls := .ref C, dict := some dx, data := .fields fv }) (od := some oD) ⟨hx, rfl, rfl, hoD⟩ hsa ?_
      refine PySem.OEX.osa_old X hx hns hw (by rw [List.length_cons] at hz; omega) hcd hm hh l3 fun h' tk' k hn' => ?_
      have X' : K.In h' := fun b o e => k b o (fun q => by rw [q, hnd] at e; cases e) (X b o e)
      obtain ⟨oL, esL, epL, hL, hrL⟩ := hn
      refine ih vs ⟨h', s.gens, s.drawn, tk', s.os⟩ _ (z.f :: nl) (by simpa using hl) X' ⟨oL, esL, epL, k _ _ (Ne.symm hdL) hL, hrL⟩ (k _ _ hxd hx) hn' (Within.cons z.f v hw) (by rw [List.length_cons] at hz ⊢; omega)
        (fun y hy => hloc y (List.mem_cons_of_mem _ hy)) (fun i y u h1 h2 => hval (i + 1) y u h1 h2) fun h2 t2 k2 n2 => ?_
      exact hq h2 t2 (fun b o hb e => k2 b o hb (k b o hb e)) n2
end
end SupX
end PySem
end
section
set_option Elab.async false
set_option linter.all false
set_option maxRecDepth 100000
set_option maxHeartbeats 2000000
namespace PySem
namespace SupX
open PySem.W PySem.Calls PyProof.Rows PySem.HandSPX

structure SupScope (scope : Scope) (l : List StP) : Prop where
  kind : scope.kind = .function
  co : scope.isCoroutine = false
  gen : scope.isGenerator = false
  cell : ∀ x ∈ scope.names, x.2 ≠ .cell
  self : scope.names.lookup ("self" : Str) = some .local
  sup : scope.names.lookup ("super" : Str) = some .globalImplicit
  clsv : scope.names.lookup ("__class__" : Str) = some .free
  loc : ∀ z ∈ l, scope.names.lookup z.f = some .local ∧ (z.f == ("__debug__" : Str)) = false
  nd : (("self" : Str) :: l.map (·.f)).Nodup
structure SupTxt (prog : Program) (K : Frag) (C fI : Addr) (qual : Str) (params : Arguments) (body : List Stmt) (scope : Scope) (l : List StP) : Prop where
  cls : ∃ nm q N bs bm sn sub ab col dd k0 k1 k2 k3 k5, K.lookup C = some (excClassObj nm q C N bs bm true sn sub ab col dd k0 k1 k2 k3 k5 "ValueError.__new__") ∧ refsVE bm = true
  sa : findIn K (.ref C) "__setattr__" = some (some (.builtin "object.__setattr__"))
  noat : ∀ z ∈ l, findIn K (.ref C) z.f = some none
  iC : findIn K (.ref C) "__init__" = some (some (.ref fI))
  tC : typeIn K (.ref fI) = some (.type "function")
  kC : keepIn K (.ref C) = true
  exC : subIn K (.ref C) (.type "BaseException") = some true
  veC : subIn K (.ref C) (.type "ValueError") = some true
  tyC : typeIn K (.ref C) = some (.type "type")
  mro : mroIn K C (.ref C) = some true
  sup : ks_superIn K C C "__init__" = some (some (.builtin "ValueError.__init__"))
  opq : nsIn K cStatics "thirdparty.any" = some none
  fn : ∃ (oc : Value) (od : Option Addr) (osl : Array (Option Value)) (kV doc pm : Value) (an : Option Addr) (cda : Addr) (ct : Value) (cc : Addr) (ccl : Value) (cdd : Option Addr) (cvs : Array Value) (ccs : Array (Option Value)) (file : Str) (tf : Tok) (cl : Value) (cld : Option Addr) (csl : Array (Option Value)),
    K.lookup fI = some ⟨oc, od, .func (ksFn "__init__" qual params body scope .none kV doc pm an (.ref cda) ct cc), osl⟩ ∧ codeIn K (.ref cda) qual = true ∧
    K.lookup cda = some ⟨ccl, cdd, .fields cvs, ccs⟩ ∧ cvs[2]? = some (.str file tf) ∧ ((prog.main.file : Str) == file) = true ∧ K.lookup cc = some ⟨cl, cld, .cell (some (.ref C)), csl⟩
structure InitEnd (h h' : Heap) (x C dx t1 : Addr) (l : List StP) (vs : List Value) : Prop where
  keep : ∀ b o, b ≠ x → h.get? b = some o → h'.get? b = some o
  obj : h'.get? x = some { cls := .ref C, dict := some dx, data := .fields #[.ref t1, .none, .none, .none, .bool false, .none] }
  dbig : h.objs.size ≤ dx
  dne : dx ≠ x
  ns : h'.Ns1 dx (putAll ((l.map (·.f)).zip vs) fun _ => none)

section
variable {prog : Program} {w : World} {A : Around} {E : Value → Shared → Prop} {R : Result → Shared → Prop} {s : Shared} {K : Frag} {mg mb : Str → Option Value} {C fI : Addr} {qual : Str} {params : Arguments} {scope : Scope} {msg : Expr} {p0 p1 p2 p3 p4 : Pos} {z0 : StP} {l : List StP}
/-- what the places of the text decide -/
structure SupPos (qual : Str) (scope : Scope) (fI : Addr) (msg : Expr) (p0 p1 p2 p3 p4 : Pos) : Prop where
  ev : ∀ (L : Addr) (cda cc : Addr), ∃ pl : Sem Bool, eval (.Call (.Attribute (.Call (.Name "super" p0) [] [] p1) "__init__" p2) [msg] [] p3) (ksEnv qual scope L fI (.ref cda) cc) = (do
      let ov ← attributeBase (.Call (.Name "super" p0) [] [] p1) "__init__" (ksEnv qual scope L fI (.ref cda) cc) (eval (.Call (.Name "super" p0) [] [] p1) (ksEnv qual scope L fI (.ref cda) cc))
      standAt p2.atName
      let (f, first) ← holding [ov] (getMethod ov "__init__" pl)
      callWith p3 f first (backTo p3 (starEach [msg] (ksEnv qual scope L fI (.ref cda) cc))) [])
  it : ∀ (L : Addr) (cda cc : Addr), interactive (ksEnv qual scope L fI (.ref cda) cc) = false
  st : ∀ (L : Addr) (cda cc : Addr), backTo p3 (starEach [msg] (ksEnv qual scope L fI (.ref cda) cc)) = [(false, eval msg (ksEnv qual scope L fI (.ref cda) cc))]
theorem sup_init (PP : SupPos qual scope fI msg p0 p1 p2 p3 p4) (T : SupTxt prog K C fI qual params (iB msg p0 p1 p2 p3 p4 (z0 :: l)) scope (z0 :: l)) (S : SupScope scope (z0 :: l)) (htop : (prog.main.scope.names.lookup ("super" : Str)).isSome = false)
    (hhead : ∃ ar : Arg, (params.posonlyargs ++ params.args).head? = some ar ∧ ar.arg = "self")
    (hbind : ∀ (kV doc pm : Value) (an : Option Addr) (cda : Addr) (ct : Value) (cc : Addr) (us : List Value), us.length = l.length + 2 →
      bindArgs (ksFn "__init__" qual params (iB msg p0 p1 p2 p3 p4 (z0 :: l)) scope .none kV doc pm an (.ref cda) ct cc) ⟨us, []⟩ = pure ((("self" : Str) :: (z0 :: l).map (·.f)).zip us))
    {x t0 : Addr} {vs : List Value} (X : K.In s.heap) (hlim : s.heap.NoLimit) (hG : s.heap.Ns mainGlobals mg) (gs : mg "super" = none) (hB : s.heap.Ns builtinsNs mb) (bsup : mb "super" = some (.type "super"))
    (hl : vs.length = l.length + 1) (hx : s.heap.get? x = some (excO C t0)) (hnx : K.lookup x = none) (hroom : A.depth < recursionLimit) (hl2 : l.length ≤ 800)
    (hmsg : ∀ (L cda cc : Addr), MsgOk prog w (ksEnv qual scope L fI (.ref cda) cc) (fun y => (((("self" : Str) :: (z0 :: l).map (·.f)).zip (.ref x :: vs)).reverse).lookup y) msg)
    (hq : ∀ h' tk dx t1, InitEnd s.heap h' x C dx t1 (z0 :: l) vs → R (.ok (.ret .none)) { s with heap := h', toks := tk }) :
    codeAny (model prog w) A (.call (.ref fI) ⟨.ref x :: vs, []⟩) R s := by
  obtain ⟨oc, od, osl, kV, doc, pm, an, cda, ct, cc, ccl, cdd, cvs, ccs, file, tf, cl, cld, csl, ho, hcd, hcode, hvs, hfile, hcell⟩ := T.fn
  obtain ⟨nm, q, N, bs, bm, sn, sub, ab, col, dd, k0, k1, k2, k3, k5, hC, hbm⟩ := T.cls
  have hcl : clsIn K C = some { name := nm, bases := bs, mro := .ref C :: bm, ns := N, qualname := q, hasDict := true, slotNames := sn, subclasses := sub, abstract := ab, collection := col, hasDel := false } := by unfold clsIn; rw [hC] <;> rfl
  obtain ⟨ar, har, hself⟩ := hhead
  have hlen : (Value.ref x :: vs).length = l.length + 2 := by rw [List.length_cons, hl]
  have hzl : ((("self" : Str) :: (z0 :: l).map (·.f)).zip (Value.ref x :: vs)).map (·.1) = ("self" : Str) :: (z0 :: l).map (·.f) := by
    rw [← List.unzip_fst, List.unzip_zip (by rw [hlen]; simp)]
  have hnd : (((("self" : Str) :: (z0 :: l).map (·.f)).zip (Value.ref x :: vs)).map (·.1)).Nodup := by rw [hzl]; exact S.nd
  have hm0 : ((("self" : Str) :: (z0 :: l).map (·.f)).zip (Value.ref x :: vs)).reverse.lookup ("self" : Str) = some (.ref x) := lookup_rev hnd List.mem_cons_self
  have hmi : ∀ (i : Nat) (z : StP) (v : Value), (z0 :: l)[i]? = some z → vs[i]? = some v → ((("self" : Str) :: (z0 :: l).map (·.f)).zip (Value.ref x :: vs)).reverse.lookup z.f = some v := fun i z v h1 h2 => by
    refine lookup_rev hnd (List.mem_cons_of_mem _ ?_)
    refine List.mem_iff_getElem?.mpr ⟨i, ?_⟩
    exact List.getElem?_zip_eq_some.mpr ⟨by rw [List.getElem?_map, h1]; rfl, h2⟩
  refine ks_codeAny_call_defAt (fd := ksFn "__init__" qual params (iB msg p0 p1 p2 p3 p4 (z0 :: l)) scope .none kV doc pm an (.ref cda) ct cc) (body := iB msg p0 p1 p2 p3 p4 (z0 :: l)) (binds := (("self" : Str) :: (z0 :: l).map (·.f)).zip (Value.ref x :: vs)) hroom (X _ _ ho) rfl hlim (codeRec_of X hcd) rfl (BindsTo.of_eq (hbind kV doc pm an cda ct cc _ hlen)) S.cell (fun y hy => ?_) (fun h₁ hns k => ?_) S.co S.gen S.kind
  · have hy1 : y.1 ∈ ("self" : Str) :: (z0 :: l).map (·.f) := (List.of_mem_zip (a := y.1) (b := y.2) hy).1
    rcases List.mem_cons.mp hy1 with e | e
    · rw [e]; exact S.self
    · obtain ⟨z, hz, e2⟩ := List.mem_map.mp e
      rw [← e2]; exact (S.loc z hz).1
  · obtain ⟨hh, g, d, t, os⟩ := s
    have X₁ : K.In h₁ := X.keeps k
    have hx₁ := k _ _ hx
    have hxL : x ≠ hh.objs.size := Nat.ne_of_lt (Heap.lt_size hx)
    show _root_.PySem.wpAt (model prog w) (A.deeper (ksEnv qual scope hh.objs.size fI (.ref cda) cc)) (.func _ (ksEnv qual scope hh.objs.size fI (.ref cda) cc)) (execs (iB msg p0 p1 p2 p3 p4 (z0 :: l)) (ksEnv qual scope hh.objs.size fI (.ref cda) cc)) _ _ _
    obtain ⟨pl, hev⟩ := PP.ev hh.objs.size cda cc
    refine ks_wpAt_execs_cons (ks_wpAt_Expr_any (ks_wpAt_MethodCall (pl := pl) ?_ hev) (PP.it _ _ _))
    have I₁ : InstAt h₁ x (excO C t0) C none := ⟨hx₁, rfl, rfl, trivial⟩
    refine ks_wpAt_super_base (env := ksEnv qual scope hh.objs.size fI (.ref cda) cc) S.sup S.clsv (by decide) rfl (X₁ _ _ ho) rfl har rfl (X₁ _ _ hcode) rfl hvs hfile htop ?_
    refine ks_loadName_global S.kind S.sup (loadGlobal_builtin (env := ksEnv qual scope hh.objs.size fI (.ref cda) cc) (hG.keeps k) gs (hB.keeps k) bsup ⟨rfl, ?_⟩)
    refine wpAny_loadName_free S.kind S.clsv rfl ⟨_, X₁ _ _ hcell, rfl⟩ ?_
    rw [hself]
    refine wpAny_loadName_local S.kind S.self hns hm0 ?_
    refine ks_wpAny_isType_cls (X₁ _ _ hC) rfl ⟨rfl, ?_⟩
    refine ks_wpAny_call_super (X₁ _ _ hC) rfl I₁.at_ I₁.cls (fun c e => by cases e) (looks_mroIn X₁ T.mro) (fun h₂ e₂ k₂ => ?_)
    have X₂ : K.In h₂ := X₁.keeps k₂
    have I₂ : InstAt h₂ x (excO C t0) C none := ⟨k₂ _ _ hx₁, rfl, rfl, trivial⟩
    have hsup := T.sup
    unfold ks_superIn at hsup
    rw [hcl] at hsup
    refine kxs_getMethod kxs_ValueError e₂ (looks_opaque X₂ T.opq) (l₀ := .ref C :: bm) (fun A Q E s k q => wpAny_bind ((looks_clsIn X₂ hcl) A _ E s k (wpAny_pure q))) rfl X₂ hsup (I₂.type.andThen (looks_subIn X₂ T.veC)) (ks_ne X₂ I₂ hcl) (by decide) ?_
    rw [PP.st]
    refine kxs_callWith (i := "ValueError.__init__") (x := x) (by rfl) (evalArgs_plain ?_)
    obtain ⟨oL, esL, epL, hL, hrL⟩ := hns
    have k₃ : ∀ b o, h₂.get? b = some o → (h₂.push (kxs_mw "ValueError.__init__" x)).get? b = some o := fun b o e => Heap.get?_push_of_some _ e
    refine spliced_cons ?_
    refine hmsg hh.objs.size cda cc _ _ _ _ ⟨oL, esL, epL, k₃ _ _ (k₂ _ _ hL), hrL⟩ fun v tk => ?_
    refine spliced_nil ?_
    have hmw : (h₂.push (kxs_mw "ValueError.__init__" x)).get? h₂.objs.size = some (kxs_mw "ValueError.__init__" x) := Heap.get?_push_at rfl rfl
    refine ⟨hmw, ?_⟩
    have X₃ : K.In (h₂.push (kxs_mw "ValueError.__init__" x)) := X₂.keeps k₃
    refine call_mw (X₃ _ _ hC) hbm (k₃ _ _ I₂.at_) hmw (by show 1 ≤ sizeLine; rw [sizeLine_eq]; decide) fun h₄ t₄ k₄ e₄ => ?_
    have kx : ∀ b o, b ≠ x → h₁.get? b = some o → h₄.get? b = some o := fun b o hb e => k₄ b o hb (k₃ _ _ (k₂ _ _ e))
    refine wpAt_of_wpAny ?_
    have hn₄ : h₄.Ns hh.objs.size (fun y => (((("self" : Str) :: (z0 :: l).map (·.f)).zip (Value.ref x :: vs)).reverse).lookup y) := ⟨oL, esL, epL, kx _ _ (Ne.symm hxL) hL, hrL⟩
    have X₄ : K.In h₄ := fun b o e => kx b o (fun q => by rw [q, hnx] at e; cases e) (X₁ b o e)
    cases vs with
    | nil => cases hl
    | cons v0 vr =>
      obtain ⟨l1, l2⟩ := S.loc z0 List.mem_cons_self
      show wpAny _ _ (execs (stB (z0 :: l)) _) _ _ _
      refine wpAny_execs_cons (plainObj_wpAny_Assign_Attribute ?_)
      refine ldK hn₄ (hmi 0 z0 v0 rfl rfl) ?_ S.kind l1 l2
      refine ldK hn₄ hm0 ?_ S.kind S.self (by decide)
      refine set_plain X₄ (ox := excO C t₄) (od := none) ⟨e₄, rfl, rfl, trivial⟩ T.sa ?_
      refine exc_osa X₄ e₄ hcl (show refsVE (.ref C :: bm) = true from hbm) rfl (T.noat z0 List.mem_cons_self) fun h₅ tk₅ dx k₅ dn dne hx₅ hn₅ => ?_
      have dL : dx ≠ hh.objs.size := fun q => by
        have z := Heap.lt_size (kx _ _ (Ne.symm hxL) hL)
        rw [← q] at z
        exact absurd (Nat.lt_of_lt_of_le z dn) (Nat.lt_irrefl _)
      have sz : hh.objs.size ≤ dx := Nat.le_trans (Nat.le_of_lt (Heap.lt_size (kx _ _ (Ne.symm hxL) hL))) dn
      have dK : K.lookup dx = none := by
        cases e : K.lookup dx with
        | none => rfl
        | some o => exact absurd (Nat.lt_of_lt_of_le (Heap.lt_size (X₄ _ _ e)) dn) (Nat.lt_irrefl _)
      have X₅ : K.In h₅ := fun b o e => k₅ b o (fun q => by rw [q, hnx] at e; cases e) (X₄ b o e)
      refine stores_old S.kind hcl (show refsVE (.ref C :: bm) = true from hbm) rfl T.sa hm0 S.self hxL dL hnx dK (Ne.symm dne) l vr ⟨h₅, g, d, tk₅, os⟩ _ [z0.f] (by simpa using hl) X₅ ⟨oL, esL, epL, k₅ _ _ (Ne.symm hxL) (kx _ _ (Ne.symm hxL) hL), hrL⟩ hx₅ hn₅ ?_ (by show 1 + l.length ≤ 900; omega)
        (fun z hz => ⟨(S.loc z (List.mem_cons_of_mem _ hz)).1, (S.loc z (List.mem_cons_of_mem _ hz)).2, T.noat z (List.mem_cons_of_mem _ hz)⟩) (fun i z u e1 e2 => hmi (i + 1) z u e1 e2) fun h₆ t₆ k₆ n₆ => ?_
      · intro y hy
        by_cases e : y = z0.f
        · rw [e]; exact List.mem_cons_self
        · have hy2 : (if y = z0.f then some v0 else none) ≠ none := hy
          rw [if_neg e] at hy2
          exact absurd rfl hy2
      · refine hq h₆ t₆ dx t₄ ⟨fun b o hb e => ?_, k₆ _ _ (Ne.symm dne) hx₅, sz, dne, n₆⟩
        have hbd : b ≠ dx := fun q => by
          have z := Heap.lt_size e
          rw [q] at z
          exact absurd (Nat.lt_of_lt_of_le z sz) (Nat.lt_irrefl _)
        exact k₆ _ _ hbd (k₅ _ _ hb (kx _ _ hb (k _ _ e)))

/-- a made one -/
structure Made (h h' : Heap) (e C d : Addr) (fs : List Str) (us : List Value) : Prop where
  keep : ∀ b o, h.get? b = some o → h'.get? b = some o
  new : h.objs.size ≤ e
  obj : ∃ oe vs, h'.get? e = some oe ∧ oe.cls = .ref C ∧ oe.dict = some d ∧ oe.data = .fields vs ∧ vs[1]? = some .none
  dbig : h.objs.size ≤ d
  dne : d ≠ e
  ns : h'.Ns1 d (putAll (fs.zip us) fun _ => none)
theorem sup_made (PP : SupPos qual scope fI msg p0 p1 p2 p3 p4) (T : SupTxt prog K C fI qual params (iB msg p0 p1 p2 p3 p4 (z0 :: l)) scope (z0 :: l)) (S : SupScope scope (z0 :: l)) (htop : (prog.main.scope.names.lookup ("super" : Str)).isSome = false)
    (hhead : ∃ ar : Arg, (params.posonlyargs ++ params.args).head? = some ar ∧ ar.arg = "self")
    (hbind : ∀ (kV doc pm : Value) (an : Option Addr) (cda : Addr) (ct : Value) (cc : Addr) (us : List Value), us.length = l.length + 2 →
      bindArgs (ksFn "__init__" qual params (iB msg p0 p1 p2 p3 p4 (z0 :: l)) scope .none kV doc pm an (.ref cda) ct cc) ⟨us, []⟩ = pure ((("self" : Str) :: (z0 :: l).map (·.f)).zip us))
    {vs : List Value} (X : K.In s.heap) (hlim : s.heap.NoLimit) (hG : s.heap.Ns mainGlobals mg) (gs : mg "super" = none) (hB : s.heap.Ns builtinsNs mb) (bsup : mb "super" = some (.type "super"))
    (hl : vs.length = l.length + 1) (hroom : A.depth + 1 < recursionLimit) (hl2 : l.length ≤ 800)
    (hmsg : ∀ (x L cda cc : Addr), MsgOk prog w (ksEnv qual scope L fI (.ref cda) cc) (fun y => (((("self" : Str) :: (z0 :: l).map (·.f)).zip (.ref x :: vs)).reverse).lookup y) msg)
    (hq : ∀ h' tk e d, Made s.heap h' e C d ((z0 :: l).map (·.f)) vs → R (.ok (.ret (.ref e))) { s with heap := h', toks := tk }) :
    codeAny (model prog w) A (.call (.ref C) ⟨vs, []⟩) R s := by
  obtain ⟨nm, q, N, bs, bm, sn, sub, ab, col, dd, k0, k1, k2, k3, k5, hC, hbm⟩ := T.cls
  obtain ⟨hp, g, dr, tk, os⟩ := s
  have k : ∀ b o, hp.get? b = some o → ((hp.push (kdv_tup vs)).push (excO C hp.objs.size)).get? b = some o := fun b o e => Heap.get?_push_of_some _ (Heap.get?_push_of_some _ e)
  have hget : ((hp.push (kdv_tup vs)).push (excO C hp.objs.size)).get? (hp.objs.size + 1) = some (excO C hp.objs.size) := by heap_get
  have hnx : K.lookup (hp.objs.size + 1) = none := by
    cases e : K.lookup (hp.objs.size + 1) with
    | none => rfl
    | some o =>
      have z : hp.get? (hp.objs.size + 1) = some o := X _ _ e
      exact absurd (Nat.lt_of_succ_lt (Heap.lt_size z)) (Nat.lt_irrefl _)
  have hvl : vs.length ≤ sizeLine := by
    rw [sizeLine_eq]
    omega
  refine call_own F.excBase_ValueError (fun X => refsVE_contains X bm hbm) (X _ _ hC) (looks_findIn X T.iC) (fun self => bind_fn X self T.tC) hvl ?_
  refine sup_init (s := ⟨(hp.push (kdv_tup vs)).push (excO C hp.objs.size), g, dr, tk, os⟩) PP T S htop hhead hbind (X.keeps k) (hlim.keeps k) (hG.keeps k) gs (hB.keeps k) bsup hl hget hnx ?_ hl2 (hmsg _) fun h' tk' dx t1 M => ?_
  · show A.depth + 1 < recursionLimit
    exact hroom
  · have dn : ((hp.push (kdv_tup vs)).push (excO C hp.objs.size)).objs.size ≤ dx := M.dbig
    have old : ∀ b o, hp.get? b = some o → h'.get? b = some o := fun b o e => M.keep b o (Nat.ne_of_lt (Nat.lt_succ_of_lt (Heap.lt_size e))) (k b o e)
    rw [Heap.size_push, Heap.size_push] at dn
    exact ⟨rfl, hq h' tk' (hp.objs.size + 1) dx ⟨old, Nat.le_succ _, ⟨_, _, M.obj, rfl, rfl, rfl, rfl⟩, (by show hp.objs.size ≤ dx; omega), M.dne, M.ns⟩⟩
end
/-- a class that is made by C(..): what its caller needs -/
structure SupCls (prog : Program) (w : World) (K : Frag) (mg : Str → Option Value) (x : Str) (C : Addr) (fs : List Str) (P : List L2.V → Prop) : Prop where
  gC : mg x = some (.ref C)
  gs : mg "super" = none
  kC : keepIn K (.ref C) = true
  exC : subIn K (.ref C) (.type "BaseException") = some true
  tyC : typeIn K (.ref C) = some (.type "type")
  made : ∀ (A : Around) (s : Shared) (R : Result → Shared → Prop) (mb : Str → Option Value) (vs : List L2.V) (us : List Value), L2.Vals vs us → P vs → vs.length = fs.length → K.In s.heap → s.heap.NoLimit → s.heap.Ns mainGlobals mg → s.heap.Ns builtinsNs mb → mb "super" = some (.type "super") → A.depth + 1 < recursionLimit →
    (∀ h' tk e d, Made s.heap h' e C d fs us → R (.ok (.ret (.ref e))) { s with heap := h', toks := tk }) → codeAny (model prog w) A (.call (.ref C) ⟨us, []⟩) R s
end SupX
end PySem
namespace L2
open PySem PySem.Spec PyProof.Rows
/-- the fields, the last one first -/
def xfs : List Str → List V → List (Str × V) → List (Str × V)
  | f :: fs, v :: vs, acc => xfs fs vs ((f, v) :: acc)
  | _, _, acc => acc
theorem xfs_ok : ∀ {fs : List Str} {vs : List V} {us : List Value} {acc : List (Str × V)} {m : Str → Option Value}, Vals vs us → (∀ f, RelO (acc.lookup f) (m f)) → ∀ f, RelO ((xfs fs vs acc).lookup f) (PySem.SupX.putAll (fs.zip us) m f)
  | [], _, _, _, _, _, r => r
  | _ :: _, [], _, _, _, .nil, r => r
  | g :: fs, v :: vs, _ :: us, acc, m, .cons rv rt, r => xfs_ok (fs := fs) rt (relO_put rv r)
section
variable {X : Cx} {C : Addr} {x : Str} {fs : List Str} {P : List V → Prop}
/-- C(e, ..) -/
def tMkSup (C : Addr) (fs : List Str) (P : List V → Prop) (ta : TA) : St → Hp → XK → Prop := fun σ H Q => ta σ H fun vs H1 => P vs ∧ vs.length = fs.length ∧ ∀ d, H1 d = none → Q (.ref C) (some d) (upd H1 d (.xd (xfs fs vs [])))
theorem pmk_sup {e : Expr} {es : List Expr} {ta : TA} {p pos : Pos} {k : Nat} (T : PySem.SupX.SupCls X.prog X.w X.K X.mg x C fs P) (hr : Room k X.A) (ha : PA X (e :: es) ta) (hg : Gl X x := by rfl) (hx : (x == ("__debug__" : Str)) = false := by decide)
    (he : starEach (e :: es) X.env = (false, eval e X.env) :: starEach es X.env := by rfl) (hpl : (backTo pos (starEach es X.env)).any (·.1) = false := by rfl) :
    PMk X (.Call (.Name x p) (e :: es) [] pos) (tMkSup C fs P ta) := by
  intro pins s σ H Q I h
  refine wpAny_Call_Name_kw (ld_glob I hg T.gC ?_ hx)
  refine PySem.W.callWith_K (h₀ := X.base) I.ok.mod.kin T.kC (thn (ha.run pos pins s σ H _ I h) fun us s1 hh => ?_) he hpl
  obtain ⟨vs, H1, I1, r1, hP, hl, q1⟩ := hh
  refine ⟨I1.kIn, ?_⟩
  show wpAny _ _ (call (.ref C) us) _ _ _
  have hlim := I1.nolimit
  obtain ⟨mb, hb1, hb2⟩ := I1.mod.blt
  have hG : s1.heap.Ns mainGlobals X.mg := I1.mod.glob.keeps I1.bk
  have hB : s1.heap.Ns builtinsNs mb := hb1.keeps I1.bk
  obtain ⟨hp, g, dr, tk, os⟩ := s1
  refine wpAny_call (T.made _ _ _ mb vs us r1 hP hl I1.kIn hlim hG hB ((hb2 _ (by decide)).trans (by decide +kernel)) (by have := hr.dp; omega) fun h' tk' e d M => ?_)
  show MkP X pins σ Q (.ref e) ⟨h', g, dr, tk', os⟩
  obtain ⟨oe, fv, hoe, hc, hd, hdat, h1⟩ := M.obj
  have hns := M.ns
  obtain ⟨G', g1, g2⟩ := restrict h' fun b => decide (b ≠ e)
  have gk : ∀ b, b ≠ e → G'.get? b = h'.get? b := fun b hb => g1 b (decide_eq_true hb)
  have ge : G'.get? e = none := g2 e (by simp)
  have old : ∀ b o, hp.get? b = some o → G'.get? b = some o := fun b o q => (gk b (Nat.ne_of_lt (Nat.lt_of_lt_of_le (Heap.lt_size q) M.new))).trans (M.keep b o q)
  have ob : ObjOk X.prog X.w (upd H1 d (.xd (xfs fs vs []))) G' d (.xd (xfs fs vs [])) :=
    ⟨_, hns.at (fun o q => (gk d M.dne).trans q), fun f => xfs_ok (acc := []) (m := fun _ => none) r1 (fun _ => True.intro) f⟩
  have J : Inv X pins σ (upd H1 d (.xd (xfs fs vs []))) ⟨G', g, dr, tk', os⟩ := I1.laid (t' := tk') old M.dbig ob
  refine ⟨e, oe, fv, ⟨G', g, dr, tk', os⟩, _, .ref C, some d, rfl, J, fun b o q => ?_, ge, hoe, ⟨hc, hd⟩, hdat, h1, ?_, rfl, I1.bare, raises_own T.exC T.tyC, q1 d (I1.hok.fresh M.dbig)⟩
  · by_cases hb : b = e
    · have q' : G'.get? b = some o := q
      rw [hb, ge] at q'
      cases q'
    · exact (gk b hb).symm.trans q
  · rw [upd_ne (Ne.symm M.dne)]
    exact I1.hok.fresh M.new
/-- raise C(e, ..) -/
def tRaiseSup (C : Addr) (fs : List Str) (P : List V → Prop) (W : WX) (ta : TA) : TS := fun _ σ H => tMkSup C fs P ta σ H fun cls d H' => W cls d σ H'
theorem ps_raiseSup {e : Expr} {es : List Expr} {ta : TA} {W : WX} {p pos pos2 : Pos} {k : Nat} (hc : X.calm = true) (T : PySem.SupX.SupCls X.prog X.w X.K X.mg x C fs P) (hr : Room k X.A) (tk : Takes X W) (ha : PA X (e :: es) ta) (hg : Gl X x := by rfl) (hx : (x == ("__debug__" : Str)) = false := by decide)
    (he : starEach (e :: es) X.env = (false, eval e X.env) :: starEach es X.env := by rfl) (hpl : (backTo pos (starEach es X.env)).any (·.1) = false := by rfl) :
    PS X (.Raise (some (.Call (.Name x p) (e :: es) [] pos)) none pos2) (tRaiseSup C fs P W ta) := ps_raise hc tk (pmk_sup T hr ha hg hx he hpl)
end
end L2
end
section
set_option Elab.async false
set_option linter.all false
set_option maxRecDepth 100000
set_option maxHeartbeats 2000000
namespace Sh
open PySem PySem.Spec PyProof.Rows L2
def top (i : Nat) : Stmt := PySem.Challenge.pw_shearyard_k05_readers_follow_their_rows.main.body.getD i (.Pass ⟨0, 0, 0, 0⟩)
/-- the built-ins and constants by their names -/
structure Bl (mg : Str → Option Value) : Prop where
  b_len : mg "len" = none
  b_range : mg "range" = none
  b_abs : mg "abs" = none
  b_int : mg "int" = none
  b_max : mg "max" = none
  b_all : mg "all" = none
  b_isinstance : mg "isinstance" = none
  b_set : mg "set" = none
  b_list : mg "list" = none
  b_tuple : mg "tuple" = none
  b_bool : mg "bool" = none
  b_str : mg "str" = none
  b_enumerate : mg "enumerate" = none
  c_MOST_KINDS : ∃ t, mg "MOST_KINDS" = some (.int 8 t)
  c_MOST_BRANCHES : ∃ t, mg "MOST_BRANCHES" = some (.int 3 t)
  c_MOST_KNOTS : ∃ t, mg "MOST_KNOTS" = some (.int 2000 t)
  c_LONGEST_NAME : ∃ t, mg "LONGEST_NAME" = some (.int 8 t)
  c_LETTERS : ∃ t, mg "LETTERS" = some (.str "abcdefghijklmnopqrstuvwxyz" t)
theorem pe_cI {X : Cx} {x : Str} {i : Int} {pos : Pos} (hg : Gl X x) (h : ∃ t, X.mg x = some (.int i t)) (hd : (x == ("__debug__" : Str)) = false := by decide) : PE X (.Name x pos) (tC (.int i)) := by
  obtain ⟨t, e⟩ := h
  exact pe_glob hg e ⟨t, rfl⟩ hd
theorem pe_cS {X : Cx} {x z : Str} {pos : Pos} (hg : Gl X x) (h : ∃ t, X.mg x = some (.str z t)) (hd : (x == ("__debug__" : Str)) = false := by decide) : PE X (.Name x pos) (tC (.str z)) := by
  obtain ⟨t, e⟩ := h
  exact pe_glob hg e ⟨t, rfl⟩ hd
/-- all that stood stands, but what is at a -/
def Kp (a : Addr) (H H' : Hp) : Prop := ∀ b o, H b = some o → b ≠ a → H' b = some o
theorem Kp.refl (a : Addr) (H : Hp) : Kp a H H := fun _ _ h _ => h
theorem Kp.trans {a : Addr} {H H1 H2 : Hp} (x : Kp a H H1) (y : Kp a H1 H2) : Kp a H H2 := fun b o h n => y b o (x b o h n) n
theorem Kp.upd {a : Addr} {H H1 : Hp} {o : HO} (x : Kp a H H1) : Kp a H (upd H1 a o) := fun b u h n => by rw [upd_ne n]; exact x b u h n
theorem Kp.same {a : Addr} {H H' : Hp} (x : Same H H') : Kp a H H' := fun b o h _ => x b o h
structure Bg (z0 z1 z2 z3 : Int) (cs : List Int) : Prop where
  lo : 4 ≤ z3
  hi : z3 ≤ 4 + cs.length
  sz : cs.length ≤ 63
  nn : ∀ c ∈ cs, 0 ≤ c
def bgL (z0 z1 z2 z3 : Int) (cs : List Int) : List V := .int z0 :: .int z1 :: .int z2 :: .int z3 :: cs.map V.int
def BagAt (H : Hp) (a : Addr) : Prop := ∃ z0 z1 z2 z3 cs, H a = some (.lst (bgL z0 z1 z2 z3 cs)) ∧ Bg z0 z1 z2 z3 cs
open C8 (pss_cut tCut)
open Evl (ixN_nat)
section
variable {P : Program} {w : World} {K : PySem.W.Frag} {mg : Str → Option Value} {base : Heap}
end
end Sh
end
section
set_option Elab.async false
set_option linter.all false
set_option maxRecDepth 100000
set_option maxHeartbeats 2000000
set_option autoImplicit false
namespace L2
open PySem PySem.Spec PyProof.Rows
/-- a tuple that is followed -/
def Tq (H : Hp) (a : Addr) (xs : List V) : Prop := Rd H a (.tup xs)
/-- .. whose object has no dict -/
def Tz (H : Hp) (a : Addr) (xs : List V) : Prop := ∃ o, H a = some (.frz o (.tup xs)) ∧ o.dict = none
theorem Tq.of {H : Hp} {a : Addr} {xs : List V} (h : H a = some (.tup xs)) : Tq H a xs := .inl h
theorem Tq.sq {K : PySem.W.Frag} {H : Hp} {a : Addr} {xs : List V} (h : Tq H a xs) : SqT K H a xs := .inl h
theorem Tq.same {H H' : Hp} {a : Addr} {xs : List V} (h : Tq H a xs) (s : ∀ b o, H b = some o → H' b = some o) : Tq H' a xs := by
  rcases h with h | ⟨o, h⟩
  · exact .inl (s _ _ h)
  · exact .inr ⟨o, s _ _ h⟩
theorem Tz.q {H : Hp} {a : Addr} {xs : List V} (h : Tz H a xs) : Tq H a xs := by
  obtain ⟨o, h, _⟩ := h
  exact .inr ⟨o, h⟩
theorem Tz.same {H H' : Hp} {a : Addr} {xs : List V} (h : Tz H a xs) (s : ∀ b o, H b = some o → H' b = some o) : Tz H' a xs := by
  obtain ⟨o, h, d⟩ := h
  exact ⟨o, s _ _ h, d⟩
theorem Tq.ne_none {H : Hp} {a p : Addr} {xs : List V} (h : Tq H a xs) (hp : H p = none) : a ≠ p := by
  rcases h with h | ⟨o, h⟩
  · exact ne_of_none h hp
  · exact ne_of_none h hp
/-- followed tuples stay -/
def TQ (H H' : Hp) : Prop := ∀ t xs, Tq H t xs → Tq H' t xs
theorem TQ.refl (H : Hp) : TQ H H := fun _ _ h => h
theorem TQ.trans {H H1 H2 : Hp} (x : TQ H H1) (y : TQ H1 H2) : TQ H H2 := fun t xs h => y t xs (x t xs h)
theorem TQ.of_same {H H' : Hp} (s : ∀ b o, H b = some o → H' b = some o) : TQ H H' := fun t xs q => q.same s
theorem TQ.new {H : Hp} {p : Addr} {o : HO} (h : H p = none) : TQ H (upd H p o) := fun t xs q => by
  have n := q.ne_none h
  rcases q with q | ⟨o, q⟩
  · exact .inl (by rw [upd_ne n]; exact q)
  · exact .inr ⟨o, by rw [upd_ne n]; exact q⟩
theorem TQ.lst {H : Hp} {p : Addr} {ys : List V} {o : HO} (h : H p = some (.lst ys)) : TQ H (upd H p o) := fun t xs q => by
  rcases q with q | ⟨o, q⟩
  · exact .inl (by rw [upd_ne (ne_of q h (by intro e; cases e))]; exact q)
  · exact .inr ⟨o, by rw [upd_ne (ne_of q h (by intro e; cases e))]; exact q⟩
section
variable {X : Cx}
end
end L2
end
section
set_option Elab.async false
set_option linter.all false
set_option maxRecDepth 100000
set_option maxHeartbeats 2000000
set_option autoImplicit false
namespace L2
open PySem PySem.Spec PyProof.Rows
/-- an exception that lies in the state s at hand, ahead of the clauses -/
structure Caught (X : Cx) (pins : List (Addr × Obj)) (σ : St) (H : Hp) (s : Shared) (a : Addr) (cls : Value) (d : Option Addr) : Prop where
  na : H a = none
  fly : ∃ B, HandSPX.FlyingZ B (X.env :: X.outer) a (Zc cls d) s.heap ∧ ∀ h, HandSPX.FlyingZ B (X.env :: X.outer) a (Zc cls d) h → s.heap.UpToSlots h → Inv X pins σ H { s with heap := h }
section
variable {X : Cx} {pins : List (Addr × Obj)} {σ : St} {H : Hp} {s : Shared} {a : Addr} {cls : Value} {d : Option Addr}
/-- into the suite of a clause -/
theorem suite_of {B : Heap} (hf : X.env.frame = some X.env.locals) (fl : HandSPX.FlyingZ B (X.env :: X.outer) a (Zc cls d) s.heap) (I : Inv X pins σ H s) (na : H a = none) :
    ∃ oe, (∃ vs, oe.data = .fields vs) ∧ s.heap.get? a = some oe ∧ Zc cls d oe ∧ Inv (X.suite a ((a, oe) :: (X.pn ++ pins))) [] σ H s := by
  obtain ⟨oe, vs, he, hz, hd⟩ := fl.there
  have off : ∀ f ∈ frs (X.env :: X.outer), a ≠ f := fun f hm e => by
    subst e
    obtain ⟨_, o, e2, nf⟩ := fl.2.2.1.mem hm
    rw [he] at e2
    cases e2
    exact nf _ hd
  refine ⟨oe, ⟨vs, hd⟩, he, hz, I.suite he hd na (off _ (List.mem_filterMap.mpr ⟨X.env, List.mem_cons_self, hf⟩)) fun hm => ?_⟩
  obtain ⟨en, hen, q⟩ := List.mem_filterMap.mp hm
  exact off a (List.mem_filterMap.mpr ⟨en, List.mem_cons_of_mem _ hen, q⟩) rfl
/-- a try statement by what its clauses do with what is caught -/
theorem ps_try_by {body : List Stmt} {hds : List ExceptHandler} {h₀ : ExceptHandler} {pos : Pos} {tb : WX → TS} {Wd : Ends → WX} (hs : X.stack = X.env :: X.outer) (hf : X.env.frame = some X.env.locals)
    (hb : ∀ (W : WX) (pn : List (Addr × Obj)) (xe : Value → Shared → Prop), Takes (X.tr pn xe) W → PassesOwn (model X.prog X.w) X.A X.env xe → PSs (X.tr pn xe) body (tb W))
    (hk : ∀ (pins : List (Addr × Obj)) (D : Ends) (σ : St) (H : Hp) (s : Shared) (a : Addr) (cls : Value) (d : Option Addr), X.Ok → Caught X pins σ H s a cls d → Wd D cls d σ H →
      wpAny (model X.prog X.w) X.A (handleBy (.ref a) X.env (h₀ :: hds)) (SP X pins D) X.xe s) :
    PS X (.Try body (h₀ :: hds) [] [] pos) (fun D σ H => tb (Wd D) D σ H) := by
  refine ⟨fun pins s σ H D I h => wpAny_Try_except ?_⟩
  have ok := I.ok
  have hfr : X.A.frames = some (X.env :: X.outer) := by rw [ok.frames, hs]
  have P := (hb (Wd D) (X.pn ++ pins) (fun e s₁ => wpAny (model X.prog X.w) X.A (noteFrame e X.env) (fun _ s₂ => wpAny (model X.prog X.w) X.A (setFlight e none) (fun _ s₃ =>
    wpAny (model X.prog X.w) X.A (handleBy e X.env (h₀ :: hds)) (SP X pins D) X.xe s₃) X.xe s₂) X.xe s₁) (fun u s' xx => by
      obtain ⟨a, B, sI, pins', σ', H', cls, d, rfl, J', nb, up, sky, na, os, ag, w⟩ := xx
      have sky' : Sky B (X.env :: X.outer) a (Zc cls d) X.env.locals s'.heap := by rw [← hs]; exact sky
      refine Sky.land Zc.steady hfr hf sky' fun h3 fl3 up3 => hk pins D σ' H' { s' with heap := h3 } a cls d ok ⟨na, B, fl3, fun h fl up4 => ?_⟩ w
      exact (J'.ofTry ok).landed nb fl.1 ((up.trans up3).trans up4) os ag) PassesOwn.looking).run [] s σ H D (I.toTry _) h
  refine wpAny_mono P (fun f s1 hsp => ?_) fun _ _ he => he
  cases f with
  | ret u =>
    obtain ⟨v, σ', H', J', r, q⟩ := hsp
    exact ⟨v, σ', H', J'.ofTry ok, r, q⟩
  | next =>
    obtain ⟨σ', H', J', q⟩ := hsp
    exact wpAny_execs_nil ⟨σ', H', J'.ofTry ok, q⟩
  | brk =>
    obtain ⟨σ', H', J', q⟩ := hsp
    exact ⟨σ', H', J'.ofTry ok, q⟩
  | cont =>
    obtain ⟨σ', H', J', q⟩ := hsp
    exact ⟨σ', H', J'.ofTry ok, q⟩
end
end L2
namespace Sh
open PySem PySem.Spec PyProof.Rows L2
/-- an own exception class in except clauses -/
structure XOk (K : PySem.W.Frag) (C : Addr) (fs : List Str) : Prop where
  xf : XfC K C
  no : ∀ f ∈ fs, PySem.W.findIn K (.ref C) f = some none
  me : PySem.W.exmOne K (.ref C) (.ref C) = some true
end Sh
end
section
set_option Elab.async false
set_option linter.all false
set_option maxRecDepth 100000
set_option maxHeartbeats 2000000
set_option autoImplicit false
namespace Hx
open PySem PySem.Spec PyProof.Rows L2 He PySem.W
/-- an own exception class: its name, its fields, its __init__ as written -/
structure XDef where
  x : Str
  fs : List Str
  qual : Str
  params : Arguments
  body : List Stmt
  scope : Scope
abbrev XV : Type := Option (Str × Str × Arguments × FuncBody × Scope × Addr × Addr)
def iOf (K : Frag) (x : Str) : Addr := ma K (ga K x) "__init__"
def xvOf (K : Frag) (x : Str) : XV := match K.lookup (iOf K x) with
  | some ⟨_, _, .func fd, _⟩ => some (fd.name, fd.qualname, fd.params, fd.body, fd.scope, fd.globals, fd.builtins)
  | _ => none
def XDef.val (d : XDef) : XV := some ("__init__", d.qual, d.params, .stmts d.body, d.scope, mainGlobals, builtinsNs)
def cellB (K : Frag) (C : Addr) (cl : List (Str × Addr)) : Bool := match cl with
  | [(n, cc)] => decide (n = "__class__") && (match K.lookup cc with
    | some ⟨_, _, .cell (some (.ref D)), _⟩ => decide (D = C)
    | _ => false)
  | _ => false
def codeB (K : Frag) (file : Str) (cd : Value) : Bool := match cd with
  | .ref cda => (match K.lookup cda with
    | some ⟨_, _, .fields cvs, _⟩ => (match (cvs[2]? : Option Value) with
      | some (.str f _) => file == f
      | _ => false)
    | _ => false)
  | _ => false
def noneB (v : Value) : Bool := match v with
  | .none => true
  | _ => false
def funB (K : Frag) (file : Str) (d : XDef) : Bool := match K.lookup (iOf K d.x) with
  | some ⟨_, _, .func fd, _⟩ => noneB fd.defaults && (codeIn K fd.code d.qual && (codeB K file fd.code && cellB K (ga K d.x) fd.closure))
  | _ => false
def clsB (K : Frag) (C : Addr) : Bool := match K.lookup C with
  | some ⟨.type "type", _, .cls cd, sl⟩ => (match cd.mro, sl.toList with
    | .ref C' :: bm, [_, _, _, _, some (.builtin n), _] => decide (C' = C) && (decide (n = "ValueError.__new__") && (!cd.hasDel && (cd.hasDict && HandSPX.refsVE bm)))
    | _, _ => false)
  | _ => false
def XDef.ok (file : Str) (K : Frag) (d : XDef) : Bool :=
  clsB K (ga K d.x) && (funB K file d && (eqO (findIn K (.ref (ga K d.x)) "__setattr__") (some (some (.builtin "object.__setattr__"))) && ((d.fs.all fun f => eqO (findIn K (.ref (ga K d.x)) f) (some none)) &&
  (eqO (findIn K (.ref (ga K d.x)) "__init__") (some (some (.ref (iOf K d.x)))) && (decide (typeIn K (.ref (iOf K d.x)) = some (.type "function")) && (keepIn K (.ref (ga K d.x)) && (decide (subIn K (.ref (ga K d.x)) (.type "BaseException") = some true) &&
  (decide (subIn K (.ref (ga K d.x)) (.type "ValueError") = some true) && (decide (typeIn K (.ref (ga K d.x)) = some (.type "type")) && (decide (mroIn K (ga K d.x) (.ref (ga K d.x)) = some true) && (eqO (ks_superIn K (ga K d.x) (ga K d.x) "__init__") (some (some (.builtin "ValueError.__init__"))) &&
  (eqO (nsIn K cStatics "thirdparty.any") (some none) && (L2.xfB K (ga K d.x) && (decide (exmOne K (.ref (ga K d.x)) (.ref (ga K d.x)) = some true) && eqO (nsIn K mainGlobals d.x) (some (some (.ref (ga K d.x))))))))))))))))))
structure XFacts (prog : Program) (K : Frag) (d : XDef) (l : List SupX.StP) : Prop where
  txt : SupX.SupTxt prog K (ga K d.x) (iOf K d.x) d.qual d.params d.body d.scope l
  xf : L2.XfC K (ga K d.x)
  no : ∀ f ∈ d.fs, findIn K (.ref (ga K d.x)) f = some none
  me : exmOne K (.ref (ga K d.x)) (.ref (ga K d.x)) = some true
  gl : nsIn K mainGlobals d.x = some (some (.ref (ga K d.x)))
theorem facts_of {prog : Program} {K : Frag} {d : XDef} {l : List SupX.StP} (e : xvOf K d.x = d.val) (c : d.ok prog.main.file K = true) (hl : ∀ z ∈ l, z.f ∈ d.fs) : XFacts prog K d l := by
  unfold XDef.ok at c
  obtain ⟨c1, c⟩ := ba c
  obtain ⟨c2, c⟩ := ba c
  obtain ⟨c3, c⟩ := ba c
  obtain ⟨c4, c⟩ := ba c
  obtain ⟨c5, c⟩ := ba c
  obtain ⟨c6, c⟩ := ba c
  obtain ⟨c7, c⟩ := ba c
  obtain ⟨c8, c⟩ := ba c
  obtain ⟨c9, c⟩ := ba c
  obtain ⟨c10, c⟩ := ba c
  obtain ⟨c11, c⟩ := ba c
  obtain ⟨c12, c⟩ := ba c
  obtain ⟨c13, c⟩ := ba c
  obtain ⟨c14, c⟩ := ba c
  obtain ⟨c15, c16⟩ := ba c
  have no : ∀ f ∈ d.fs, findIn K (.ref (ga K d.x)) f = some none := fun f hf => eqO_ok (List.all_eq_true.mp c4 f hf)
  refine ⟨⟨?_, eqO_ok c3, fun z hz => no _ (hl z hz), eqO_ok c5, of_decide_eq_true c6, c7, of_decide_eq_true c8, of_decide_eq_true c9, of_decide_eq_true c10, of_decide_eq_true c11, eqO_ok c12, eqO_ok c13, ?_⟩, L2.xfB_ok c14, no, of_decide_eq_true c15, eqO_ok c16⟩
  · unfold clsB at c1
    split at c1
    · rename_i dd cd sl ho
      split at c1
      · rename_i C' bm k0 k1 k2 k3 n k5 hm hs
        obtain ⟨y1, y⟩ := ba c1
        obtain ⟨y2, y⟩ := ba y
        obtain ⟨y3, y⟩ := ba y
        obtain ⟨y4, y5⟩ := ba y
        have y1 := of_decide_eq_true y1
        have y2 := of_decide_eq_true y2
        have y3' : cd.hasDel = false := by
          cases h : cd.hasDel with
          | false => rfl
          | true => rw [h] at y3; cases y3
        clear y3
        obtain ⟨nm, bs, mro, ns, qn, hd, sn, sub, ab, col, del⟩ := cd
        dsimp only at hm y3' y4
        subst y1 y2 hm y3' y4
        have hsl : sl = #[k0, k1, k2, k3, some (.builtin "ValueError.__new__"), k5] := by
          obtain ⟨l⟩ := sl
          simp only at hs
          rw [hs]
        subst hsl
        exact ⟨nm, qn, ns, bs, bm, sn, sub, ab, col, dd, k0, k1, k2, k3, k5, ho, y5⟩
      · cases c1
    · cases c1
  · unfold funB at c2
    unfold xvOf at e
    cases q : K.lookup (iOf K d.x) with
    | none =>
      rw [q] at c2
      cases c2
    | some o =>
      obtain ⟨oc, od, dt, osl⟩ := o
      rw [q] at c2 e
      cases dt with
      | func fd =>
        obtain ⟨n1, n2, n3, n4, n5, n6, n7, n8, n9, n10, n11, n12, n13, n14, n15⟩ := fd
        have e2 : (some (n1, n2, n3, n4, n5, n6, n15) : XV) = (some (("__init__" : Str), d.qual, d.params, FuncBody.stmts d.body, d.scope, mainGlobals, builtinsNs) : XV) := e
        simp only [Option.some.injEq, Prod.mk.injEq] at e2
        obtain ⟨h1, h2, h3, h4, h5, h6, h8⟩ := e2
        subst h1 h2 h3 h4 h5 h6 h8
        have c3 : (noneB n8 && (codeIn K n13 d.qual && (codeB K prog.main.file n13 && cellB K (ga K d.x) n7))) = true := c2
        obtain ⟨k1, k2⟩ := ba c3
        obtain ⟨k3, k4⟩ := ba k2
        obtain ⟨k5, k6⟩ := ba k4
        have hn8 : n8 = .none := by
          cases n8 with
          | none => rfl
          | _ => cases k1
        subst hn8
        unfold codeB at k5
        unfold cellB at k6
        split at k5
        · rename_i cda
          split at k5
          · rename_i ccl cdd cvs ccs hcda
            split at k5
            · rename_i f tf hf
              split at k6
              · rename_i n cc
                obtain ⟨z1, z2⟩ := ba k6
                have z1 := of_decide_eq_true z1
                subst z1
                split at z2
                · rename_i cl cld D csl hcc
                  have z2 := of_decide_eq_true z2
                  subst z2
                  exact ⟨oc, od, osl, n9, n10, n11, n12, cda, n14, cc, ccl, cdd, cvs, ccs, f, tf, cl, cld, csl, rfl, k3, hcda, hf, k5, hcc⟩
                · cases z2
              · cases k6
            · cases k5
          · cases k5
        · cases k5
      | _ => cases c2
theorem x_of {file : Str} {K : Frag} {xs : List XDef} (h1 : (xs.all fun d => d.ok file K) = true) (h2 : (xs.map fun d => xvOf K d.x) = xs.map XDef.val) (i : Nat) {d : XDef} (h : xs[i]? = some d := by rfl) : xvOf K d.x = d.val ∧ d.ok file K = true := by
  refine ⟨?_, List.all_eq_true.mp h1 d (List.mem_of_getElem? h)⟩
  have e2 : (xs.map fun d => xvOf K d.x)[i]? = (xs.map XDef.val)[i]? := by rw [h2]
  rw [List.getElem?_map, List.getElem?_map, h] at e2
  exact Option.some.inj e2
end Hx
end
section
set_option linter.all false
set_option autoImplicit false
namespace Mth
variable {α : Type} (w : α → Nat)
/-- n plants one behind the other, and nothing else -/
def forest : List α → Nat → Bool
  | [], n => n == 0
  | _ :: _, 0 => false
  | k :: r, n + 1 => forest r (w k + n)
/-- behind n plants -/
def skip : List α → Nat → List α
  | [], _ => []
  | k :: r, 0 => k :: r
  | k :: r, n + 1 => skip r (w k + n)
theorem forest_skip : ∀ (l : List α) (a b : Nat), forest w l (a + b) = true → forest w (skip w l a) b = true
  | [], a, b, h => by
    have e : a + b = 0 := eq_of_beq h
    have e2 : b = 0 := by omega
    rw [e2]; rfl
  | k :: r, 0, b, h => by rw [Nat.zero_add] at h; exact h
  | k :: r, a + 1, b, h => by
    rw [show a + 1 + b = (a + b) + 1 by omega] at h
    have h2 : forest w r (w k + (a + b)) = true := h
    show forest w (skip w r (w k + a)) b = true
    exact forest_skip r (w k + a) b (by rw [Nat.add_assoc]; exact h2)
theorem skip_suffix : ∀ (l : List α) (n : Nat), ∃ j, j ≤ l.length ∧ skip w l n = l.drop j
  | [], _ => ⟨0, Nat.le_refl _, rfl⟩
  | k :: r, 0 => ⟨0, Nat.zero_le _, rfl⟩
  | k :: r, n + 1 => by
    obtain ⟨j, hj, e⟩ := skip_suffix r (w k + n)
    exact ⟨j + 1, by rw [List.length_cons]; omega, e⟩
theorem forest_nil {n : Nat} (h : forest w [] n = true) : n = 0 := eq_of_beq h
theorem forest_zero {l : List α} (h : forest w l 0 = true) : l = [] := by
  cases l with
  | nil => rfl
  | cons _ _ => cases h
theorem forest_pos {l : List α} {n : Nat} (h : forest w l (n + 1) = true) : l ≠ [] := fun e => by
  rw [e] at h
  exact absurd (eq_of_beq h : n + 1 = 0) (by omega)
/-- the place behind n plants from place i on -/
def nxs (l : List α) (i n : Nat) : Nat := l.length - (skip w (l.drop i) n).length
theorem drop_nxs (l : List α) (i n : Nat) : l.drop (nxs w l i n) = skip w (l.drop i) n := by
  obtain ⟨j, hj, e⟩ := skip_suffix w (l.drop i) n
  unfold nxs
  rw [e, List.drop_drop, List.length_drop]
  rw [List.length_drop] at hj
  by_cases h : i ≤ l.length
  · rw [show l.length - (l.length - (i + j)) = i + j by omega]
  · rw [List.drop_eq_nil_of_le (by omega), List.drop_eq_nil_of_le (by omega)]
theorem nxs_le (l : List α) (i n : Nat) : nxs w l i n ≤ l.length := Nat.sub_le _ _
/-- m plants stand from place i to the end -/
def Fst (l : List α) (i m : Nat) : Prop := i ≤ l.length ∧ forest w (l.drop i) m = true
theorem Fst.lt {l : List α} {i m : Nat} (h : Fst w l i (m + 1)) : i < l.length := by
  refine Nat.lt_of_not_le fun q => ?_
  have e := h.2
  rw [List.drop_eq_nil_of_le q] at e
  exact forest_pos w e rfl
theorem Fst.skip {l : List α} {i a b : Nat} (h : Fst w l i (a + b)) : Fst w l (nxs w l i a) b :=
  ⟨nxs_le w l i a, by rw [drop_nxs]; exact forest_skip w _ a b h.2⟩
theorem Fst.in {l : List α} {i m : Nat} {k : α} (h : Fst w l i (m + 1)) (hk : l[i]? = some k) : Fst w l (i + 1) (w k + m) := by
  have hi := (List.getElem?_eq_some_iff.mp hk).1
  have e := h.2
  have d : l.drop i = k :: l.drop (i + 1) := by
    rw [List.drop_eq_getElem_cons hi]
    have := (List.getElem?_eq_some_iff.mp hk).2
    rw [this]
  rw [d] at e
  exact ⟨hi, e⟩
theorem Fst.all {l : List α} (h : forest w l 1 = true) : ∀ i, i ≤ l.length → ∃ m, Fst w l i m
  | 0, _ => ⟨1, Nat.zero_le _, by rw [List.drop_zero]; exact h⟩
  | i + 1, hi => by
    obtain ⟨m, F⟩ := Fst.all h i (by omega)
    cases m with
    | zero =>
      have z := forest_zero w F.2
      have := congrArg List.length z
      rw [List.length_drop] at this
      simp at this
      omega
    | succ m => exact ⟨_, F.in w (List.getElem?_eq_getElem (by omega))⟩
theorem Fst.pos {l : List α} {i m : Nat} (h : Fst w l i m) (hi : i < l.length) : ∃ n, m = n + 1 := by
  cases m with
  | succ n => exact ⟨n, rfl⟩
  | zero =>
    have z := forest_zero w h.2
    have := congrArg List.length z
    rw [List.length_drop] at this
    simp at this
    omega
def kids (p : List Nat) (n : Nat) : List (List Nat) := (List.range n).map fun i => p ++ [i]
/-- the paths that wait ahead of place i -/
def stk (l : List α) : Nat → List (List Nat)
  | 0 => [[]]
  | i + 1 => match stk l i, l[i]? with
    | p :: st, some k => kids p (w k) ++ st
    | st, _ => st
def pth (l : List α) (i : Nat) : List Nat := (stk w l i).headD []
/-- where a path leads, from a place -/
def walk (l : List α) : Nat → List Nat → Option Nat
  | p, [] => some p
  | p, c :: cs => match l[p]? with
    | some k => if c < w k then walk l (nxs w l (p + 1) c) cs else none
    | none => none
end Mth
namespace Mth
variable {α : Type} (w : α → Nat)
end Mth
end
section
set_option Elab.async false
set_option linter.all false
set_option maxRecDepth 100000
set_option maxHeartbeats 4000000
set_option autoImplicit false
namespace L2
open PySem PySem.Spec PyProof.Rows
section
variable {X : Cx}
/-- isinstance(e, c), e the exception that the suite holds, whatever it has in its dict -/
structure ExcD (K : PySem.W.Frag) (D : Addr) : Prop where
  c : ExcC K D
  cl : (PySem.W.clsIn K D).isSome = true
def rIsD (K : PySem.W.Frag) (a : Addr) (cls : Value) (d : Option Addr) : List V → Hp → VK → Prop := fun xs H Q => ∃ (D dd : Addr) (fs : List (Str × V)) (c : V) (cv : Value) (b : Bool), xs = [.ref a, c] ∧ cls = .ref D ∧ d = some dd ∧ H dd = some (.xd fs) ∧ ExcD K D ∧ (∀ u, RelV c u → u = cv) ∧ PySem.W.kitOne K (.ref D) cv = some b ∧ Q (.bl b) H
theorem call_isD {a : Addr} {oe : Obj} {cls : Value} {d : Option Addr} {pn : List (Addr × Obj)} (hz : Zc cls d oe) (hf : ∃ vs, oe.data = .fields vs) : CallR (X.suite a ((a, oe) :: pn)) (.builtin "isinstance") (rIsD X.K a cls d) := by
  intro pins s σ H xs us Q I r h
  obtain ⟨D, dd, fs, c, cv, b, rfl, ec, ed, ea, C, hcv, e, q⟩ := h
  subst ec ed
  cases r with
  | cons rx rr =>
    cases rr with
    | cons rt rr =>
      cases rr
      cases rx
      have ec := hcv _ rt
      subst ec
      obtain ⟨hget, _⟩ := I.pin (a, oe) (List.mem_append.mpr (.inl List.mem_cons_self))
      obtain ⟨vs, hv⟩ := hf
      obtain ⟨mA, hns, hr⟩ : ObjOk X.prog X.w H s.heap dd (.xd fs) := I.hok dd _ ea
      obtain ⟨od, ho, hl⟩ := lookIn_ns hns
      have J : PySem.W.InstAt s.heap a oe D (some od) := ⟨hget, hz.1, by unfold PySem.W.notCls; rw [hv] <;> rfl, by rw [hz.2]; exact ho⟩
      exact PySem.W.kia_one (PySem.W.kitx_exc C.cl C.c.hg C.c.hk C.c.hs C.c.ha C.c.hn C.c.ht C.c.hm) I.kIn J e (fun z => nomatch z) fun tk => ⟨.bl b, H, I.kept (t' := tk) fun _ _ z => z, rfl, q⟩
end
end L2
end
section
set_option Elab.async false
set_option linter.all false
set_option maxRecDepth 100000
set_option maxHeartbeats 4000000
set_option autoImplicit false
namespace Lx
open PySem PySem.Spec PyProof.Rows L2 LamX NdefX
/-- the object at f is the lambda F with the body e -/
def LamO (f : Addr) (F : NF) (e : Expr) : HO := .ext fun h => ∃ (pm ctv : Value), h.get? f = some (PySem.W.kla_obj F.name F.qual F.params e F.scope F.cl pm F.c ctv)
theorem lamO_at {P : Program} {w : World} {H : Hp} {h : Heap} {f : Addr} {F : NF} {e : Expr} (hok : HOk P w H h) (x : H f = some (LamO f F e)) : ∃ (pm ctv : Value), h.get? f = some (PySem.W.kla_obj F.name F.qual F.params e F.scope F.cl pm F.c ctv) := by
  obtain ⟨z, _, _⟩ := hok f _ x
  exact z
section
variable {CX : CXT} {P : Program} {w : World} {K : PySem.W.Frag} {mg : Str → Option Value} {base : Heap} {N ps fr : List Str} {F : NF} {f : Addr} {k : Nat}
theorem lam_run (S : NScope N ps fr F.scope) {body : Expr} {A : Around} {outer : List Env} {s : Shared} {H : Hp} {us : List Value} {vs : List V} {ws : List (Option V)} {Q : VK} {E : XK}
    (hr : Room (k + 1) A) (e0 : Env0 P w K mg base A outer s H) (ho : H f = some (LamO f F body)) (hc : H F.c = some (CodeO F.c F.qual)) (C : CellsAt F.cl fr ws s.heap H) (r : Vals vs us) (hl : vs.length = ps.length)
    (hb : ∀ pm ctv, bindArgs (PySem.W.kla_fn F.name F.qual F.params body F.scope F.cl pm (.ref F.c) ctv) ⟨us, []⟩ = pure (ps.zip us))
    (hbody : Room k (A.deeper (envF F f s.heap.objs.size)) → ∃ t, PE (ncx CX P w K mg base N F f A outer s H E) body t ∧ t (startF N vs ws) H Q) :
    codeAny (model P w) A (.call (.ref f) ⟨us, []⟩) (CR CX outer P w H s Q E) s := by
  have lim : s.heap.NoLimit := e0.mod.nolimit.keeps fun b o e => (e0.bs b o e).1
  obtain ⟨pm, ctv, of⟩ := lamO_at e0.hok ho
  refine PySem.W.kla_callFunE hr.depth of rfl S.co S.gen rfl (codeO_at e0.hok hc) ?_
  rw [hb pm ctv]
  refine wpAny_pure (wpAny_newFunctionEnv S.nocell (fun ⟨n, _⟩ hy => S.par n (List.of_mem_zip hy).1) (fun h₁ hns hsb => ⟨lim.fresh _ hsb, ?_⟩) S.kind)
  show codeAny _ _ (.expr body (envF F f s.heap.objs.size)) _ _
  have kp : ∀ b o, s.heap.get? b = some o → h₁.get? b = some o := fun b o e => hsb.extBut b o (Nat.ne_of_lt (Heap.lt_size e)) (Heap.get?_push_of_some _ e)
  obtain ⟨t, ht, hq⟩ := hbody (hr.deeper _)
  have I : Inv (ncx CX P w K mg base N F f A outer s H E) [] (startF N vs ws) H { s with heap := h₁, toks := s.toks + (ps.zip us).length } := inv_startN S hr.hd e0 hl r C hns kp
  refine PySem.W.kla_codeExpr (wpAny_mono (ht.run [] _ _ H Q I hq) (fun v s' hq => ?_) fun e s' hq => hq)
  obtain ⟨w', H', J', rv, q⟩ := hq
  exact ⟨w', H', J'.os, J'.bare, J'.base, J'.hok, rv, q⟩
end
section
variable {X : Cx} {pins : List (Addr × Obj)} {σ : L2.St} {H : Hp} {s : Shared}
end
end Lx
end
section
set_option Elab.async false
set_option linter.all false
set_option maxRecDepth 100000
set_option maxHeartbeats 4000000
set_option autoImplicit false
namespace Lx
open PySem PySem.Spec PyProof.Rows L2 LamX NdefX
section
variable {X : Cx} {pins : List (Addr × Obj)} {σ : L2.St} {H : Hp} {s : Shared}
theorem FpOk.at {H H' : Hp} {b : Addr} (f : FpOk X pins H b) (n : H' b = none) : FpOk X pins H' b := ⟨n, f.2⟩
end
end Lx
end
section
set_option Elab.async false
set_option linter.all false
set_option maxRecDepth 100000
set_option maxHeartbeats 4000000
set_option autoImplicit false
namespace Lx
open PySem PySem.Spec PyProof.Rows L2 LamX NdefX
section
variable {X : Cx} {pins : List (Addr × Obj)} {σ : L2.St} {H H2 : Hp} {s : Shared}
end
section
variable {X : Cx}
/-- what a lambda with one parameter asks of its maker -/
structure LamK (X : Cx) (T : List (Addr × Str)) (c P : Addr) (N fr : List Str) (js : List Nat) (a : Str) (params : Arguments) (body : Expr) (scope : Scope) : Prop where
  TB : TabB X.base X.mg c P
  code : X.env.code = .ref c
  mem : (P, X.env.qual ++ "<lambda>") ∈ T
  one : ∀ p ∈ T, p.1 = P → p.2 = X.env.qual ++ "<lambda>"
  dft : defaultsOf params X.env = ([], [])
  S : NScope N [a] fr scope
  free : ∀ y ∈ scope.names, y.2 = .free → X.env.scope.names.lookup y.1 = some .cell ∨ X.env.scope.names.lookup y.1 = some .free
  frm : ∀ y ∈ fr, (y, NameKind.free) ∈ scope.names
  js : js.map (fun j => X.N[j]?) = fr.map some
  bind : ∀ (q : Str) (cl : List (Str × Addr)) (pm cv ctv u : Value), bindArgs (PySem.W.kla_fn "<lambda>" q params body scope cl pm cv ctv) ⟨[u], []⟩ = pure [(a, u)]
theorem LamK.has {T : List (Addr × Str)} {c P : Addr} {N fr : List Str} {js : List Nat} {a : Str} {params : Arguments} {body : Expr} {scope : Scope} (L : LamK X T c P N fr js a params body scope) (ok : X.Ok) : ∀ y ∈ scope.names, y.2 = .free → ∃ c, X.env.cells.lookup y.1 = some c := fun y hy e =>
  (L.free y hy e).elim (fun z => ok.has _ (.inl z)) fun z => ok.has _ (.inr z)
/-- the lambda's body, told of every frame that it may run in -/
def LamB (X : Cx) (N : List Str) (k : Nat) (scope : Scope) (body : Expr) (tb : TE) : Prop := ∀ (F : NF) (f : Addr) (A : Around) (outer : List Env) (s : Shared) (H : Hp), F.scope = scope → Room k (A.deeper (envF F f s.heap.objs.size)) → PE (ncx C8.CX0 X.prog X.w X.K X.mg X.base N F f A outer s H C8.E0) body tb
/-- a call of the lambda, within a built-in -/
theorem LamK.call {T : List (Addr × Str)} {c P : Addr} {N fr : List Str} {js : List Nat} {a : Str} {params : Arguments} {body : Expr} {scope : Scope} {k : Nat} {tb : TE} (L : LamK X T c P N fr js a params body scope) (B : LamB X N k scope body tb)
    {A : Around} {pins : List (Addr × Obj)} {σ : L2.St} {H : Hp} {s : Shared} {f c' : Addr} {x : V} {v : Value} {Q : VK} {E : Value → Shared → Prop} (hr : Room (k + 1) A) (hA : ∀ {s : Shared} {H : Hp}, Env0 X.prog X.w X.K X.mg X.base X.A X.stack s H → Env0 X.prog X.w X.K X.mg X.base A X.stack s H)
    (I : Inv X pins σ H s) (hf : H f = some (LamO f ⟨"<lambda>", X.env.qual ++ "<lambda>", params, [], scope, cloFrom X.env.cells scope.names [], c'⟩ body)) (hc : H c' = some (CodeO c' (X.env.qual ++ "<lambda>"))) (rx : RelV x v) (q : tb (startF N [x] (js.map (slotAt σ))) H Q) :
    wpAny (model X.prog X.w) A (call (.ref f) [v]) (EP X pins σ Q) E s := by
  have C : CellsAt (cloFrom X.env.cells scope.names []) fr (js.map (slotAt σ)) s.heap H := cells_of I (Caps.made I.ok L.free L.frm L.js)
  have rc := lam_run (CX := C8.CX0) (F := ⟨"<lambda>", X.env.qual ++ "<lambda>", params, [], scope, cloFrom X.env.cells scope.names [], c'⟩) (f := f) (k := k) (E := C8.E0) (Q := Q) (vs := [x]) (us := [v]) (ps := [a]) L.S hr (hA I.env0) hf hc C (.cons rx .nil) rfl (fun pm ctv => L.bind _ _ _ _ _ _) (fun hr' => ⟨tb, B _ _ _ _ _ _ rfl hr', q⟩)
  refine wpAny_call (codeAny_mono rc fun r s' hq => ?_)
  cases r with
  | error e => exact (show False from hq).elim
  | ok fl =>
    cases fl with
    | ret u => exact I.after hq
    | next => exact False.elim hq
    | brk => exact False.elim hq
    | cont => exact False.elim hq
end
end Lx
end
section
set_option Elab.async false
set_option linter.all false
set_option maxRecDepth 100000
set_option maxHeartbeats 4000000
set_option autoImplicit false
namespace Sh
open PySem PySem.Spec PyProof.Rows L2 LamX NdefX Lx
/-- where a def stands, and its code object -/
def DefC (K : PySem.W.Frag) (mg : Str → Option Value) (x : Str) (st : Stmt) (c : Addr) : Prop := ∃ f fd, mg x = some (.ref f) ∧ FunD K x x (defArgs st) (defBody st) (defScope st) [] [] f fd ∧ fd.code = .ref c
section
variable {P : Program} {w : World} {K : PySem.W.Frag} {mg : Str → Option Value} {base : Heap} {k j : Nat} {x : Str} {sp : Sp} {st : Stmt} {c : Addr}
theorem DefC.okG {CX : CXT} {N ps : List Str} (D : DefC K mg x st c) (S : FnScope N ps (defScope st)) (len : ∀ vs H Q E, sp vs H Q E → vs.length = ps.length)
    (hb : ∀ (kV doc pm : Value) (an : Option Addr) (cdv ct : Value) (us : List Value), us.length = ps.length → bindArgs (PySem.W.fnOf x x (defArgs st) (defBody st) (defScope st) .none kV doc pm an cdv ct) ⟨us, []⟩ = pure (ps.zip us))
    (hbody : ∀ (f : Addr) (A : Around) (outer : List Env) (s : Shared) (H : Hp) (vs : List V) (Q : VK) (E : XK), Room k (A.deeper (envOfC x (defScope st) s.heap.objs.size f (.ref c))) → sp vs H Q E →
      ∃ t, PSs (cxOf CX P w K mg base N x (defScope st) f (.ref c) A outer s H E) (defBody st) t ∧ t { nx := fun _ H' => Q .non H', rt := Q } (start N vs) H) : DefOk P w K mg base CX (k + 1) x sp := by
  obtain ⟨f, fd, hm, F, hc⟩ := D
  have B : Binds K fd ps [] := F.bindsN hb
  have kp := F.kp
  obtain ⟨oc, od, dV, kV, doc, pm, an, cdv, ct, osl, rfl, lk, hcd, _, _⟩ := F.ex
  obtain rfl : cdv = .ref c := hc
  have G : FnOk P w K mg base CX (k + 1) f (PySem.W.fnOf x x (defArgs st) (defBody st) (defScope st) dV kV doc pm an (.ref c) ct) ps sp := fn_of lk hcd S len fun A outer s H vs Q E hr h => hbody f A outer s H vs Q E hr h
  refine ⟨f, hm, kp, fun A outer s H us vs Q E hr e0 r hs => G.raw B .nil A outer s H us vs Q E hr e0 r (by show sp (vs ++ []) H Q E; rw [List.append_nil]; exact hs)⟩
/-- it may raise -/
theorem DefC.okX {N ps : List Str} (D : DefC K mg x st c) (S : FnScope N ps (defScope st)) (len : ∀ vs H Q E, sp vs H Q E → vs.length = ps.length)
    (hb : ∀ (kV doc pm : Value) (an : Option Addr) (cdv ct : Value) (us : List Value), us.length = ps.length → bindArgs (PySem.W.fnOf x x (defArgs st) (defBody st) (defScope st) .none kV doc pm an cdv ct) ⟨us, []⟩ = pure (ps.zip us))
    (hbody : ∀ (f : Addr) (A : Around) (outer : List Env) (s : Shared) (H : Hp) (vs : List V) (Q : VK) (E : XK), Room k (A.deeper (envOfC x (defScope st) s.heap.objs.size f (.ref c))) → sp vs H Q E →
      ∃ t, PSs (cxOf (L2.CX P w) P w K mg base N x (defScope st) f (.ref c) A outer s H E) (defBody st) t ∧ t { nx := fun _ H' => Q .non H', rt := Q } (start N vs) H) : DefOk P w K mg base (L2.CX P w) (k + 1) x sp := D.okG S len hb hbody
/-- it raises nothing -/
theorem DefC.ok {N ps : List Str} (D : DefC K mg x st c) (S : FnScope N ps (defScope st)) (len : ∀ vs H Q E, sp vs H Q E → vs.length = ps.length)
    (hb : ∀ (kV doc pm : Value) (an : Option Addr) (cdv ct : Value) (us : List Value), us.length = ps.length → bindArgs (PySem.W.fnOf x x (defArgs st) (defBody st) (defScope st) .none kV doc pm an cdv ct) ⟨us, []⟩ = pure (ps.zip us))
    (hbody : ∀ (f : Addr) (A : Around) (outer : List Env) (s : Shared) (H : Hp) (vs : List V) (Q : VK) (E : XK), Room k (A.deeper (envOfC x (defScope st) s.heap.objs.size f (.ref c))) → sp vs H Q E →
      ∃ t, PSs (cxOf CX0 P w K mg base N x (defScope st) f (.ref c) A outer s H E).nox (defBody st) t ∧ t { nx := fun _ H' => Q .non H', rt := Q } (start N vs) H) : DefOk P w K mg base CX0 (k + 1) x sp :=
  D.okG S len hb fun f A outer s H vs Q E hr h => by
    obtain ⟨t, a, b⟩ := hbody f A outer s H vs Q E hr h
    exact ⟨t, a.nox, b⟩
end
end Sh
end
section
set_option Elab.async false
set_option linter.all false
set_option maxRecDepth 100000
set_option maxHeartbeats 2000000
set_option autoImplicit false
namespace Hx
open PySem PySem.Spec PyProof.Rows L2 He PySem.W
def exB (K : Frag) (C : Addr) : Bool := xfB K C && (eqO (findIn K (.ref C) "__class__") (some (some (.builtin "object.__class__"))) && (eqO (specialIn K (.builtin "object.__class__") "__get__") (some (some (.builtin "getset_descriptor.__get__"))) && (decide (takesIn K (.builtin "object.__class__") = some true) && (decide (mroIn K C (.type "object") = some true) && (clsIn K C).isSome))))
theorem exB_ok {K : Frag} {C : Addr} (h : exB K C = true) : ExcD K C := by
  unfold exB at h
  obtain ⟨h1, h⟩ := ba h
  obtain ⟨h2, h⟩ := ba h
  obtain ⟨h3, h⟩ := ba h
  obtain ⟨h4, h⟩ := ba h
  obtain ⟨h5, h6⟩ := ba h
  have f := xfB_ok h1
  exact ⟨⟨f.ga, f.gg, f.exC, f.hdC, eqO_ok h2, eqO_ok h3, of_decide_eq_true h4, of_decide_eq_true h5⟩, h6⟩
def yB (K : Frag) (base : Str) (ns : List Str) (x : Str) : Bool := exB K (ga K x) && (decide (kitOne K (.ref (ga K x)) (.type "ValueError") = some true) && (decide (exmOne K (.ref (ga K x)) (.ref (ga K base)) = some true) && ns.all fun y => decide (kitOne K (.ref (ga K x)) (.ref (ga K y)) = some (decide (x = y)))))
structure YFacts (K : Frag) (base : Str) (ns : List Str) (x : Str) : Prop where
  ex : ExcD K (ga K x)
  kv : kitOne K (.ref (ga K x)) (.type "ValueError") = some true
  me : exmOne K (.ref (ga K x)) (.ref (ga K base)) = some true
  ki : ∀ y ∈ ns, kitOne K (.ref (ga K x)) (.ref (ga K y)) = some (decide (x = y))
theorem yB_ok {K : Frag} {base : Str} {ns : List Str} {x : Str} (h : yB K base ns x = true) : YFacts K base ns x := by
  unfold yB at h
  obtain ⟨h1, h⟩ := ba h
  obtain ⟨h2, h⟩ := ba h
  obtain ⟨h3, h4⟩ := ba h
  exact ⟨exB_ok h1, of_decide_eq_true h2, of_decide_eq_true h3, fun y hy => of_decide_eq_true (List.all_eq_true.mp h4 y hy)⟩
/-- what can be reached in n steps, twice told where it is reached twice -/
def bfs (g : Addr → Option Obj) : Nat → List Addr → List Addr
  | 0, l => l
  | n + 1, l => l ++ bfs g n (l.flatMap fun a => match g a with
    | some o => refsD o
    | none => [])
abbrev AlY : Type := (AlD × (Bool × List XV)) × Bool
end Hx
end
section
set_option Elab.async false
set_option linter.all false
set_option maxRecDepth 100000
set_option maxHeartbeats 2000000
set_option autoImplicit false
namespace Hx
open PySem PySem.Spec PyProof.Rows L2 He PySem.W
def zB (K : Frag) (base : Str) (ns : List Str) (x : Str) : Bool := yB K base ns x && (decide (kitOne K (.ref (ga K x)) (.ref (ga K base)) = some true) && ns.all fun y => decide (exmOne K (.ref (ga K x)) (.ref (ga K y)) = some (decide (x = y))))
structure ZFacts (K : Frag) (base : Str) (ns : List Str) (x : Str) : Prop extends YFacts K base ns x where
  ky : kitOne K (.ref (ga K x)) (.ref (ga K base)) = some true
  em : ∀ y ∈ ns, exmOne K (.ref (ga K x)) (.ref (ga K y)) = some (decide (x = y))
theorem zB_ok {K : Frag} {base : Str} {ns : List Str} {x : Str} (h : zB K base ns x = true) : ZFacts K base ns x := by
  unfold zB at h
  obtain ⟨h1, h⟩ := ba h
  obtain ⟨h2, h3⟩ := ba h
  exact ⟨yB_ok h1, of_decide_eq_true h2, fun y hy => of_decide_eq_true (List.all_eq_true.mp h3 y hy)⟩
end Hx
end
section
set_option Elab.async false
set_option linter.all false
set_option maxRecDepth 100000
set_option maxHeartbeats 2000000
set_option autoImplicit false
namespace Hx
open PySem PySem.Spec PyProof.Rows L2 He PySem.W
def frW (n : Nat) (g : Addr → Option Obj) : Frag := frT g (bfs g n [mainGlobals] ++ [cStatics])
def tabsW (g : Addr → Option Obj) (tf : List Defn) (K : Frag) : Bool := tabsB g tf K && decide ((tf.map fun p => (cT K p).2).Nodup)
structure TabsW (tf : List Defn) (h : Heap) (K : Frag) : Prop where
  hd : ∀ p ∈ tf, codeHdIn K (cT K p).1 (cT K p).2 = true
  out : ∀ p ∈ tf, K.lookup (cT K p).2 = none
  empty : ∀ p ∈ tf, h.get? (cT K p).2 = some { cls := .none, data := .fields #[] }
  nd : (tf.map fun p => (cT K p).2).Nodup
theorem tabsW_of {n : Nat} {tf : List Defn} {h : Heap} (e : tabsW h.get? tf (frW n h.get?) = true) : TabsW tf h (frW n h.get?) := by
  unfold tabsW at e
  obtain ⟨h1, h2⟩ := ba e
  have key : ∀ p ∈ tf, codeHdIn (frW n h.get?) (cT (frW n h.get?) p).1 (cT (frW n h.get?) p).2 = true ∧ ∃ o, h.get? (cT (frW n h.get?) p).2 = some o ∧ emptyTab o = true := fun p hp => by
    obtain ⟨h3, h4⟩ := ba (List.all_eq_true.mp h1 p hp)
    refine ⟨h3, ?_⟩
    cases q : h.get? (cT (frW n h.get?) p).2 with
    | none =>
      rw [q] at h4
      cases h4
    | some o =>
      rw [q] at h4
      exact ⟨o, rfl, h4⟩
  exact ⟨fun p hp => (key p hp).1, fun p hp => by
    obtain ⟨_, o, q, z⟩ := key p hp
    exact frT_none q z, fun p hp => by
    obtain ⟨_, o, q, z⟩ := key p hp
    rw [q, emptyTab_eq z], of_decide_eq_true h2⟩
end Hx
namespace Sh
open PySem PySem.Spec PyProof.Rows L2 LamX
end Sh
end
section
set_option Elab.async false
set_option linter.all false
set_option maxRecDepth 100000
set_option maxHeartbeats 2000000
set_option autoImplicit false
namespace Hx
open PySem PySem.Spec PyProof.Rows L2 He He5 PySem.W
def cmB (K : Frag) (p : Str × Str) : Bool := readsIn K (ga K p.1) (.type "type") && (wrapB K (ga K p.1) "classmethod" "classmethod.__get__" p.2 && fnIn K (wf K (ga K p.1) "classmethod" p.2))
theorem cread_ok {K : Frag} {C : Addr} (h : readsIn K C (.type "type") = true) : ClX.CRead K C (.type "type") := by
  refine ⟨h, ?_⟩
  unfold readsIn at h
  obtain ⟨h, _⟩ := ba h
  obtain ⟨h, _⟩ := ba h
  obtain ⟨h, h3⟩ := ba h
  obtain ⟨_, h2⟩ := ba h
  unfold specialIn
  rw [beq_iff_eq.mp h2, Option.bind_some]
  exact beq_iff_eq.mp h3
theorem cmB_ok {K : Frag} {p : Str × Str} (h : cmB K p = true) : ClX.CRead K (ga K p.1) (.type "type") ∧ ClX.CMet K (ga K p.1) (.type "type") p.2 (ma K (ga K p.1) p.2) (wf K (ga K p.1) "classmethod" p.2) := by
  obtain ⟨h1, h⟩ := ba h
  obtain ⟨h2, h3⟩ := ba h
  exact ⟨cread_ok h1, cmet_of h2 h3⟩
def obsV (file : Str) (n : Nat) (fa : List Fa) (fn : List DefA) (xs : List XDef) (base : Str) (ns : List Str) (tf : List Defn) (cm : List (Str × Str)) (g : Addr → Option Obj) : AlY :=
  ((obsA fa fn (frW n g), (xs.all fun d => d.ok file (frW n g), xs.map fun d => xvOf (frW n g) d.x)), ((ns.all fun x => zB (frW n g) base ns x) && tabsW g tf (frW n g)) && cm.all fun p => cmB (frW n g) p)
def hookV (file : Str) (n : Nat) (fa : List Fa) (fn : List DefA) (xs : List XDef) (base : Str) (ns : List Str) (tf : List Defn) (cm : List (Str × Str)) : PySem.W.Hook where
  α := AlY
  obs := fun s => obsV file n fa fn xs base ns tf cm s.heap.get?
  val := fun _ => ((valA fn, (true, xs.map XDef.val)), true)
  says := fun _ h => ∃ K : Frag, K.In h ∧ SaysA fa fn K ∧ (xs.all fun d => d.ok file K) = true ∧ (xs.map fun d => xvOf K d.x) = xs.map XDef.val ∧ (ns.all fun x => zB K base ns x) = true ∧ TabsW tf h K ∧ (cm.all fun p => cmB K p) = true
  of := fun _ s e => by
    have e2 : (((ns.all fun x => zB (frW n s.heap.get?) base ns x) && tabsW s.heap.get? tf (frW n s.heap.get?)) && cm.all fun p => cmB (frW n s.heap.get?) p) = true := congrArg (fun z : AlY => z.2) e
    obtain ⟨e2, e5⟩ := ba e2
    obtain ⟨e3, e4⟩ := ba e2
    exact ⟨_, frT_in, congrArg (fun z : AlY => z.1.1) e, congrArg (fun z : AlY => z.1.2.1) e, congrArg (fun z : AlY => z.1.2.2) e, e3, tabsW_of e4, e5⟩
  keeps := fun _ _ _ ⟨K, hK, c1, c2, c3, c4, c5, c6⟩ k => ⟨K, PySem.W.Frag.In.keeps hK k, c1, c2, c3, c4, ⟨c5.hd, c5.out, fun p hp => k _ _ (c5.empty p hp), c5.nd⟩, c6⟩
theorem obsV_eq {file : Str} {n : Nat} {fa : List Fa} {fn : List DefA} {xs : List XDef} {base : Str} {ns : List Str} {tf : List Defn} {cm : List (Str × Str)} {g : Addr → Option Obj} {s : Shared} (h : ∀ a, g a = s.heap.get? a) : obsV file n fa fn xs base ns tf cm g = (hookV file n fa fn xs base ns tf cm).obs s := by
  have e : g = s.heap.get? := funext h
  rw [e] <;> rfl
end Hx
end
section
set_option Elab.async false
set_option linter.all false
set_option maxRecDepth 100000
namespace Sh
open PySem PySem.Spec PyProof.Rows L2
abbrev s_all_letters : Stmt := top 32
abbrev s_is_name : Stmt := top 33
abbrev s_check_pairs : Stmt := top 36
abbrev s_init__ : Stmt := inClass (top 37) 0
abbrev s_check_size : Stmt := top 16
abbrev s_fault_place : Stmt := top 17
abbrev s_check_plant : Stmt := top 19
abbrev s_branches : Stmt := inClass (top 37) 4
abbrev s_law_box : Stmt := top 39
abbrev s_law_take : Stmt := top 40
abbrev s_law_bed : Stmt := top 41
abbrev s_law_text : Stmt := top 42
abbrev s_read : Stmt := inClass (top 37) 1
abbrev s_check_states : Stmt := top 24
abbrev s_are_states : Stmt := top 26
abbrev s_check_marks : Stmt := top 27
abbrev s_rows_by_kind : Stmt := top 25
abbrev s_Reader_init__ : Stmt := inClass (top 28) 0
abbrev s_law_tuples : Stmt := top 43
abbrev s_law_marks : Stmt := top 44
abbrev s_law_reader : Stmt := top 45
abbrev s_law_long : Stmt := top 46
abbrev s_all_rows : Stmt := top 21
abbrev s_rows_from : Stmt := top 22
abbrev s_law_same : Stmt := top 48
abbrev s_law_sizes : Stmt := top 49
abbrev s_Reader_table : Stmt := inClass (top 28) 5
abbrev s_law_kept : Stmt := top 54
abbrev s_law_made : Stmt := top 47
abbrev s_law_row_states : Stmt := top 51
abbrev s_Reader_step : Stmt := inClass (top 28) 2
abbrev s_Reader_states_of : Stmt := inClass (top 28) 4
abbrev s_Reader_state_of : Stmt := inClass (top 28) 3
abbrev s_Reader_contains__ : Stmt := inClass (top 28) 1
abbrev s_law_fault : Stmt := top 50
abbrev s_law_stranger : Stmt := top 53
abbrev s_law_plant : Stmt := top 52
abbrev s_law_tall : Stmt := top 55
abbrev s_law_bent_row : Stmt := top 56
abbrev s_law_told : Stmt := top 57
abbrev s_law_row_right : Stmt := top 58
abbrev s_law_steps_right : Stmt := top 59
abbrev s_law_step_told : Stmt := top 60
abbrev s_law_step_right : Stmt := top 61
abbrev s_law_bad_row : Stmt := top 62
abbrev s_law_row_fault : Stmt := top 63
abbrev s_law_creation_due : Stmt := top 64
abbrev s_law_creation : Stmt := top 65
abbrev s_law_creation_right : Stmt := top 66
abbrev s_law : Stmt := top 67
end Sh
end
section
set_option Elab.async false
set_option linter.all false
set_option maxRecDepth 100000
set_option maxHeartbeats 0
namespace Sh
open PySem PySem.Spec PyProof.Rows L2
abbrev TL : PySem.W.OpenLaw := PySem.Challenge.rw_shearyard_k05_readers_follow_their_rows
abbrev R : PySem.W.OpenRow := PySem.W.OpenLaw.row TL
def dOf (n : PySem.Str) (st : Stmt) : He.DefD := ⟨(n, none), n, n, defArgs st, defBody st, defScope st, [], []⟩
def dM (c m q : PySem.Str) (st : Stmt) : He.DefD := ⟨(c, some m), m, q, defArgs st, defBody st, defScope st, [], []⟩
def dK (c m q : PySem.Str) (st : Stmt) (ks : List (Str × He.Dv)) : He.DefD := ⟨(c, some m), m, q, defArgs st, defBody st, defScope st, [], ks⟩
def toA (d : He.DefD) : He5.DefA := ⟨fun K => He.fAd K d.at_, d.name, d.qual, d.params, d.body, d.scope, d.dfl, d.kwd⟩
def dR : He5.DefA := ⟨fun K => He5.wf K (He.ga K "Bed") "classmethod" "read", "read", "Bed.read", defArgs s_read, defBody s_read, defScope s_read, [], []⟩
def fn : List He5.DefA := [toA (dOf "check_size" s_check_size), toA (dOf "fault_place" s_fault_place), toA (dOf "check_plant" s_check_plant), toA (dOf "all_rows" s_all_rows), toA (dOf "rows_from" s_rows_from), toA (dOf "check_states" s_check_states), toA (dOf "rows_by_kind" s_rows_by_kind), toA (dOf "are_states" s_are_states), toA (dOf "check_marks" s_check_marks), toA (dOf "all_letters" s_all_letters), toA (dOf "is_name" s_is_name), toA (dOf "check_pairs" s_check_pairs), toA (dOf "_law_box" s_law_box), toA (dOf "_law_take" s_law_take), toA (dOf "_law_bed" s_law_bed), toA (dOf "_law_text" s_law_text), toA (dOf "_law_tuples" s_law_tuples), toA (dOf "_law_marks" s_law_marks), toA (dOf "_law_reader" s_law_reader), toA (dOf "_law_long" s_law_long), toA (dOf "_law_made" s_law_made), toA (dOf "_law_same" s_law_same), toA (dOf "_law_sizes" s_law_sizes), toA (dOf "_law_fault" s_law_fault), toA (dOf "_law_row_states" s_law_row_states), toA (dOf "_law_plant" s_law_plant), toA (dOf "_law_stranger" s_law_stranger), toA (dOf "_law_kept" s_law_kept), toA (dOf "_law_tall" s_law_tall), toA (dOf "_law_bent_row" s_law_bent_row), toA (dOf "_law_told" s_law_told), toA (dOf "_law_row_right" s_law_row_right), toA (dOf "_law_steps_right" s_law_steps_right), toA (dOf "_law_step_told" s_law_step_told), toA (dOf "_law_step_right" s_law_step_right), toA (dOf "_law_bad_row" s_law_bad_row), toA (dOf "_law_row_fault" s_law_row_fault), toA (dOf "_law_creation_due" s_law_creation_due), toA (dOf "_law_creation" s_law_creation), toA (dOf "_law_creation_right" s_law_creation_right), toA (dOf "law" s_law)] ++ [toA (dM "Bed" "__init__" "Bed.__init__" s_init__), toA (dM "Bed" "branches" "Bed.branches" s_branches), toA (dK "Reader" "__init__" "Reader.__init__" s_Reader_init__ [("otherwise", .int 0)]), toA (dM "Reader" "table" "Reader.table" s_Reader_table), toA (dM "Reader" "step" "Reader.step" s_Reader_step), toA (dM "Reader" "states_of" "Reader.states_of" s_Reader_states_of), toA (dM "Reader" "state_of" "Reader.state_of" s_Reader_state_of), toA (dM "Reader" "__contains__" "Reader.__contains__" s_Reader_contains__)] ++ [dR]
def fa : List He.Fa := [.glo "check_size", .glo "fault_place", .glo "check_plant", .glo "all_rows", .glo "rows_from", .glo "check_states", .glo "rows_by_kind", .glo "are_states", .glo "check_marks", .glo "all_letters", .glo "is_name", .glo "check_pairs", .glo "_law_box", .glo "_law_take", .glo "_law_bed", .glo "_law_text", .glo "_law_tuples", .glo "_law_marks", .glo "_law_reader", .glo "_law_long", .glo "_law_made", .glo "_law_same", .glo "_law_sizes", .glo "_law_fault", .glo "_law_row_states", .glo "_law_plant", .glo "_law_stranger", .glo "_law_kept", .glo "_law_tall", .glo "_law_bent_row", .glo "_law_told", .glo "_law_row_right", .glo "_law_steps_right", .glo "_law_step_told", .glo "_law_step_right", .glo "_law_bad_row", .glo "_law_row_fault", .glo "_law_creation_due", .glo "_law_creation", .glo "_law_creation_right", .glo "law", .glo "Bed", .cls "Bed", .mkr "Bed", .noat "Bed" "rows", .noat "Bed" "kinds", .noat "Bed" "widths", .noat "Bed" "ranks", .glo "Reader", .cls "Reader", .mkr "Reader", .noat "Reader" "bed", .noat "Reader" "states", .noat "Reader" "cells", .noat "Reader" "marks", .noat "Reader" "otherwise", .meth "Bed" "branches", .meth "Reader" "table", .meth "Reader" "step", .meth "Reader" "states_of", .meth "Reader" "state_of", .meth "Reader" "__contains__", .free "len", .free "range", .free "abs", .free "int", .free "max", .free "all", .free "isinstance", .free "set", .free "list", .free "tuple", .free "bool", .free "str", .free "enumerate", .free "super", .free "min", .free "sum", .free "zip", .free "ValueError", .glo "YardError", .int "MOST_KINDS" 8, .int "MOST_BRANCHES" 3, .int "MOST_KNOTS" 2000, .int "LONGEST_NAME" 8, .int "MOST_STATES" 40, .str "LETTERS" "abcdefghijklmnopqrstuvwxyz", .str "DIGITS" "0123456789"]
def s_TooMany : Stmt := inClass (top 8) 0
def xTooMany : Hx.XDef := ⟨"TooMany", ["what", "limit"], "TooMany.__init__", defArgs s_TooMany, defBody s_TooMany, defScope s_TooMany⟩
def s_InvalidPlant : Stmt := inClass (top 4) 0
def xInvalidPlant : Hx.XDef := ⟨"InvalidPlant", ["place"], "InvalidPlant.__init__", defArgs s_InvalidPlant, defBody s_InvalidPlant, defScope s_InvalidPlant⟩
def s_UnknownKind : Stmt := inClass (top 7) 0
def xUnknownKind : Hx.XDef := ⟨"UnknownKind", ["kind"], "UnknownKind.__init__", defArgs s_UnknownKind, defBody s_UnknownKind, defScope s_UnknownKind⟩
def s_WrongBranches : Stmt := inClass (top 9) 0
def xWrongBranches : Hx.XDef := ⟨"WrongBranches", ["wanted", "given"], "WrongBranches.__init__", defArgs s_WrongBranches, defBody s_WrongBranches, defScope s_WrongBranches⟩
def s_NoState : Stmt := inClass (top 10) 0
def xNoState : Hx.XDef := ⟨"NoState", ["state"], "NoState.__init__", defArgs s_NoState, defBody s_NoState, defScope s_NoState⟩
def s_InvalidReader : Stmt := inClass (top 5) 0
def xInvalidReader : Hx.XDef := ⟨"InvalidReader", ["place"], "InvalidReader.__init__", defArgs s_InvalidReader, defBody s_InvalidReader, defScope s_InvalidReader⟩
def xs : List Hx.XDef := [xTooMany, xInvalidPlant, xUnknownKind, xWrongBranches, xNoState, xInvalidReader]
def nsX : List PySem.Str := ["TooMany", "InvalidPlant", "UnknownKind", "WrongBranches", "NoState", "InvalidReader"]
def tbN : List PySem.Str := []
def tbF : List He.Defn := tbN.map fun x => (x, none)
def cmN : List (PySem.Str × PySem.Str) := [("Bed", "read")]
abbrev hk : PySem.W.Hook := Hx.hookV TL.prog.main.file 5 fa fn xs "YardError" nsX tbF cmN
def ob (s : PySem.W.SharedT) : Hx.AlY := Hx.obsV TL.prog.main.file 5 fa fn xs "YardError" nsX tbF cmN (HandSHeadRun.getT s)
def names : List PySem.Str := (["_wall", "YardError", "InvalidBed", "InvalidPlant", "InvalidReader", "InvalidText", "UnknownKind", "TooMany", "WrongBranches", "NoState", "MOST_KINDS", "MOST_BRANCHES", "MOST_KNOTS", "MOST_STATES", "check_size", "fault_place", "check_plant", "all_rows", "rows_from", "check_states", "rows_by_kind", "are_states", "check_marks", "Reader", "LETTERS"] : List PySem.Str) ++ (["LONGEST_NAME", "all_letters", "is_name", "DIGITS", "check_pairs", "Bed", "_law_box", "_law_take", "_law_bed", "_law_text", "_law_tuples", "_law_marks", "_law_reader", "_law_long", "_law_made", "_law_same", "_law_sizes", "_law_fault", "_law_row_states", "_law_plant", "_law_stranger", "_law_kept", "_law_tall", "_law_bent_row", "_law_told"] : List PySem.Str) ++ (["_law_row_right", "_law_steps_right", "_law_step_told", "_law_step_right", "_law_bad_row", "_law_row_fault", "_law_creation_due", "_law_creation", "_law_creation_right"] : List PySem.Str)
end Sh
end
section
set_option Elab.async false
set_option linter.all false
set_option maxRecDepth 100000
set_option maxHeartbeats 0
namespace Sh
open PySem PySem.W PySem.Spec PyProof.Rows L2 HandSHeadRun
theorem run_pa (w : World) (os : OsState) : (HandSHeadRun.endF (stepQ (denQ tabQ) R.prog w) 9000 R.prog w os).map (fun s => (looksF R.prog (boot_heap w.params) s.abs, seenQ (PySem.W.view R.prog [67]) names (importedModules R.prog.main.body) (fun s => xlAt (PySem.W.view R.prog [67]) [] s && recOk R.toRowW.records s) s.abs, He5.obsA fa fn (Hx.frW 5 (HandSHeadRun.getT s)))) = some (true, openGood (PySem.W.view R.prog [67]) names, He5.valA fn) := by
  kernel_rfl
theorem run_pb (w : World) (os : OsState) : (HandSHeadRun.endF (stepQ (denQ tabQ) R.prog w) 9000 R.prog w os).map (fun s => ((xs.all fun d => d.ok TL.prog.main.file (Hx.frW 5 (HandSHeadRun.getT s))), (xs.map fun d => Hx.xvOf (Hx.frW 5 (HandSHeadRun.getT s)) d.x))) = some (true, xs.map Hx.XDef.val) := by
  kernel_rfl
theorem run_pc (w : World) (os : OsState) : (HandSHeadRun.endF (stepQ (denQ tabQ) R.prog w) 9000 R.prog w os).map (fun s => (((nsX.all fun x => Hx.zB (Hx.frW 5 (HandSHeadRun.getT s)) "YardError" nsX x) && Hx.tabsW (HandSHeadRun.getT s) tbF (Hx.frW 5 (HandSHeadRun.getT s))) && cmN.all fun p => Hx.cmB (Hx.frW 5 (HandSHeadRun.getT s)) p)) = some true := by
  kernel_rfl
theorem glue {α A B C D E : Type} {e : Option α} {f : α → A} {g : α → B} {d : α → C} {x : α → D} {y : α → E} {a : A} {b : B} {c : C} {x0 : D} {y0 : E} (h1 : e.map (fun s => (f s, g s, d s)) = some (a, b, c)) (h2 : e.map x = some x0) (h3 : e.map y = some y0) : e.map (fun s => (f s, g s, ((d s, x s), y s))) = some (a, b, ((c, x0), y0)) := by
  cases e with
  | none => cases h1
  | some s =>
    have e1 := Option.some.inj h1
    have e2 : x s = x0 := Option.some.inj h2
    have e3 : y s = y0 := Option.some.inj h3
    have e4 : f s = a := congrArg (fun z => z.1) e1
    have e5 : g s = b := congrArg (fun z => z.2.1) e1
    have e6 : d s = c := congrArg (fun z => z.2.2) e1
    show some (f s, g s, ((d s, x s), y s)) = _
    rw [e2, e3, e4, e5, e6]
theorem run (w : World) : HandSHeadRun.RunEq R (PySem.W.view R.prog [67]) hk ob 9000 names w := fun os => glue (run_pa w os) (run_pb w os) (run_pc w os)
end Sh
end
section
set_option Elab.async false
set_option linter.all false
set_option maxRecDepth 100000
set_option maxHeartbeats 2000000
set_option autoImplicit false
namespace Sh
open PySem PySem.Spec PyProof.Rows L2
open C8 (pss_cut tCut)
open Evl (ixN_nat)
open TL (tl joinL tl_join join_eq)
end Sh
namespace L2
open PySem PySem.Spec PyProof.Rows
theorem Same.upd_new {H H1 : Hp} {p : Addr} {o : HO} (s : Same H H1) (hp : H1 p = none) : Same H (upd H1 p o) := fun b u h => by
  rw [upd_ne (ne_of_none (s b u h) hp)]
  exact s b u h
theorem Same.upd_own {H H1 : Hp} {p : Addr} {o : HO} (s : Same H H1) (hp : H p = none) : Same H (upd H1 p o) := fun b u h => by
  rw [upd_ne (ne_of_none h hp)]
  exact s b u h
end L2
namespace Sh
open PySem PySem.Spec PyProof.Rows L2
open C8 (pss_cut tCut)
open Evl (ixN_nat)
open TL (tl joinL tl_join join_eq)
theorem get_map {α β : Type} {f : α → β} {l : List α} {i : Nat} {y : β} (h : (l.map f)[i]? = some y) : ∃ x, l[i]? = some x ∧ y = f x := by
  rw [List.getElem?_map] at h
  cases e : l[i]? with
  | none => rw [e] at h; cases h
  | some x => rw [e] at h; exact ⟨x, rfl, (Option.some.inj h).symm⟩
theorem take_snoc {α : Type} {l : List α} {i : Nat} {x : α} (h : l[i]? = some x) : l.take i ++ [x] = l.take (i + 1) := by
  rw [List.take_add_one, h]
  rfl
theorem lt_of_get {α : Type} {l : List α} {i : Nat} {x : α} (h : l[i]? = some x) : i < l.length := (List.getElem?_eq_some_iff.mp h).1
theorem le_line {n : Nat} (h : n ≤ 10000000) : n ≤ sizeLine := Nat.le_trans h (by rw [sizeLine_eq]; decide)
theorem lt_line {n : Nat} (h : n ≤ 10000000) : n < sizeLine := Nat.lt_of_le_of_lt h (by rw [sizeLine_eq]; decide)
theorem at_ofG {α : Type} {xs : List α} {z : Int} {j : Nat} {v : α} (e : z = (j : Int)) (h : xs[j]? = some v) : atI xs z = some v := by
  rw [e]
  exact atI_nat h
def IsNm (z : Str) : Prop := 1 ≤ z.cps.size ∧ z.cps.size ≤ 8 ∧ ∀ c ∈ z.cps.toList, 97 ≤ c ∧ c ≤ 122
def sg (c : Nat) : Str := ⟨#[c]⟩
theorem letters_at (d : Nat) (h : d < 26) : (("abcdefghijklmnopqrstuvwxyz" : Str).cps.toList)[d]? = some (97 + d) := by
  have z : ∀ d, d < 26 → (("abcdefghijklmnopqrstuvwxyz" : Str).cps.toList)[d]? = some (97 + d) := by decide +kernel
  exact z d h
theorem letters_len : ("abcdefghijklmnopqrstuvwxyz" : Str).length = 26 := by decide +kernel
theorem Kp.upd_new {a p : Addr} {H H1 : Hp} {o : HO} (x : Kp a H H1) (hp : H1 p = none) : Kp a H (L2.upd H1 p o) := fun b u h n => by
  have q := x b u h n
  rw [upd_ne (ne_of_none q hp)]
  exact q
theorem Kp.upd_own {a p : Addr} {H H1 : Hp} {o : HO} (x : Kp a H H1) (hp : H p = none) : Kp a H (L2.upd H1 p o) := fun b u h n => by
  rw [upd_ne (ne_of_none h hp)]
  exact x b u h n
theorem BagAt.upd_ne {a p : Addr} {H : Hp} {o : HO} (h : BagAt H a) (n : p ≠ a) : BagAt (upd H p o) a := by
  obtain ⟨z0, z1, z2, z3, cs, q, B⟩ := h
  exact ⟨z0, z1, z2, z3, cs, by rw [L2.upd_ne (Ne.symm n)]; exact q, B⟩
section
variable {P : Program} {w : World} {K : PySem.W.Frag} {mg : Str → Option Value} {base : Heap}
end
end Sh
end
section
set_option Elab.async false
set_option linter.all false
set_option maxRecDepth 100000
set_option maxHeartbeats 2000000
set_option autoImplicit false
namespace Sh
open PySem PySem.Spec PyProof.Rows L2
open C8 (pss_cut tCut)
open Evl (ixN_nat)
open TL (tl joinL tl_join join_eq tl_append)
theorem Kp.free_of {a p : Addr} {H H1 : Hp} (x : Kp a H H1) (h : H1 p = none) (n : p ≠ a) : H p = none := by
  cases e : H p with
  | none => rfl
  | some o =>
    rw [x p o e n] at h
    cases h
theorem inV_str (w : Str) (ns : List Str) : inV (.str w) (ns.map V.str) = decide (w ∈ ns) := by
  induction ns with
  | nil => rfl
  | cons n r ih =>
    have e : inV (.str w) ((n :: r).map V.str) = ((n == w) || inV (.str w) (r.map V.str)) := rfl
    rw [e, ih, Bool.eq_iff_iff, Bool.or_eq_true, beq_iff_eq, decide_eq_true_iff, decide_eq_true_iff, List.mem_cons]
    exact or_congr_left eq_comm
theorem flat_ints (ns : List Int) : (ns.map V.int).all flatV = true := by
  rw [List.all_eq_true]
  intro x hx
  obtain ⟨y, _, rfl⟩ := List.mem_map.mp hx
  rfl
theorem sub_len {α : Type} [DecidableEq α] : ∀ (l m : List α), l.Nodup → (∀ x ∈ l, x ∈ m) → l.length ≤ m.length
  | [], _, _, _ => Nat.zero_le _
  | a :: l, m, nd, h => by
    rw [List.nodup_cons] at nd
    have ha := h a List.mem_cons_self
    have z := sub_len l (m.erase a) nd.2 fun x hx => (List.mem_erase_of_ne (fun e => nd.1 (by rw [← e]; exact hx))).mpr (h x (List.mem_cons_of_mem _ hx))
    rw [List.length_erase_of_mem ha] at z
    have p := List.length_pos_of_mem ha
    rw [List.length_cons]
    omega
theorem str_len (z : Str) : z.length = z.cps.size := rfl
theorem nm_line {z : Str} (h : IsNm z) : z.length ≤ sizeLine := le_line (Nat.le_trans h.2.1 (by decide))
section
variable {P : Program} {w : World} {K : PySem.W.Frag} {mg : Str → Option Value} {base : Heap}
end
end Sh
end
section
set_option Elab.async false
set_option linter.all false
set_option maxRecDepth 100000
set_option maxHeartbeats 2000000
set_option autoImplicit false
namespace Sh
open PySem PySem.Spec PyProof.Rows L2
open C8 (pss_cut tCut)
open Evl (ixN_nat)
abbrev Row := Str × Int
/-- tuples stay -/
def TK (H H' : Hp) : Prop := ∀ t xs, H t = some (.tup xs) → H' t = some (.tup xs)
theorem TK.refl (H : Hp) : TK H H := fun _ _ h => h
theorem TK.trans {H H1 H2 : Hp} (x : TK H H1) (y : TK H1 H2) : TK H H2 := fun t xs h => y t xs (x t xs h)
theorem TK.new {H : Hp} {p : Addr} {o : HO} (h : H p = none) : TK H (upd H p o) := fun t xs q => by
  rw [upd_ne (ne_of_none q h)]
  exact q
theorem TK.lst {H : Hp} {p : Addr} {ys : List V} {o : HO} (h : H p = some (.lst ys)) : TK H (upd H p o) := fun t xs q => by
  rw [upd_ne (ne_of q h (fun e => nomatch e))]
  exact q
theorem TK.of_same {H H' : Hp} (s : Same H H') : TK H H' := fun t xs q => s t _ q
theorem Kp.tk {a : Addr} {H H' : Hp} (x : Kp a H H') (b : BagAt H a) : TK H H' := fun t xs q => by
  obtain ⟨z0, z1, z2, z3, cs, hb, _⟩ := b
  exact x t _ q (ne_of q hb (fun e => nomatch e))
def TupsAt (H : Hp) (ts : List Addr) (rows : List Row) : Prop := ts.length = rows.length ∧ ∀ (i : Nat) (t : Addr) (q : Row), ts[i]? = some t → rows[i]? = some q → H t = some (.tup [.str q.1, .int q.2])
theorem TupsAt.keep {H H' : Hp} {ts : List Addr} {rows : List Row} (x : TupsAt H ts rows) (k : TK H H') : TupsAt H' ts rows := ⟨x.1, fun i t q a b => k _ _ (x.2 i t q a b)⟩
theorem TupsAt.snoc {H : Hp} {ts : List Addr} {rows : List Row} {t : Addr} {q : Row} (x : TupsAt H ts rows) (h : H t = some (.tup [.str q.1, .int q.2])) : TupsAt H (ts ++ [t]) (rows ++ [q]) := by
  refine ⟨by simp [x.1], fun i t' q' a b => ?_⟩
  by_cases hi : i < ts.length
  · rw [List.getElem?_append_left hi] at a
    rw [List.getElem?_append_left (by rw [← x.1]; exact hi)] at b
    exact x.2 i t' q' a b
  · have hl := lt_of_get a
    rw [List.length_append, List.length_singleton] at hl
    have e : i = ts.length := by omega
    subst e
    rw [List.getElem?_append_right (Nat.le_refl _), Nat.sub_self] at a
    rw [x.1, List.getElem?_append_right (Nat.le_refl _), Nat.sub_self] at b
    cases a
    cases b
    exact h
def RowsAt (H : Hp) (r : Addr) (rows : List Row) : Prop := ∃ ts, H r = some (.lst (ts.map V.ref)) ∧ TupsAt H ts rows
structure ROk (most : Int) (rows : List Row) : Prop where
  pos : 1 ≤ rows.length
  len : (rows.length : Int) ≤ most
  nd : (rows.map (·.1)).Nodup
  nm : ∀ q ∈ rows, IsNm q.1
  wd : ∀ q ∈ rows, 0 ≤ q.2 ∧ q.2 ≤ 3
  leaf : ∃ q ∈ rows, q.2 = 0
theorem mem_map_ints {ws : List Int} {n : Int} : inV (.int n) (ws.map V.int) = decide (n ∈ ws) := by
  induction ws with
  | nil => rfl
  | cons z r ih =>
    have e : inV (.int n) ((z :: r).map V.int) = ((z == n) || inV (.int n) (r.map V.int)) := rfl
    rw [e, ih, Bool.eq_iff_iff, Bool.or_eq_true, beq_iff_eq, decide_eq_true_iff, decide_eq_true_iff, List.mem_cons]
    exact or_congr_left eq_comm
section
variable {P : Program} {w : World} {K : PySem.W.Frag} {mg : Str → Option Value} {base : Heap}
end
end Sh
end
section
set_option Elab.async false
set_option linter.all false
set_option maxRecDepth 100000
set_option maxHeartbeats 2000000
set_option autoImplicit false
namespace Sh
open PySem PySem.Spec PyProof.Rows L2
open C8 (pss_cut tCut)
open Evl (ixN_nat)
theorem iteNN {c A B : Prop} [Decidable c] (hc : ¬ c) (h : A) : if (!decide c) = true then A else B := by
  rw [decide_eq_false hc]
  exact iteT h
def spTrueNm : Sp := fun vs H Q _ => ∃ z, vs = [.str z] ∧ IsNm z ∧ ∀ H', Same H H' → Q (.bl true) H'
theorem in_letters (c : Nat) (h : 97 ≤ c ∧ c ≤ 122) : c ∈ ("abcdefghijklmnopqrstuvwxyz" : Str).cps.toList := by
  have z := letters_at (c - 97) (by omega)
  rw [show 97 + (c - 97) = c by omega] at z
  exact List.mem_of_getElem? z
abbrev N_all_letters : List Str := ["text", "letter"]
theorem sc_all_letters : FnScope N_all_letters ["text"] (defScope s_all_letters) := ⟨rfl, rfl, rfl, by decide +kernel, rfl, by decide +kernel, by decide +kernel⟩
abbrev N_is_name : List Str := ["text"]
theorem sc_is_name : FnScope N_is_name ["text"] (defScope s_is_name) := ⟨rfl, rfl, rfl, by decide +kernel, rfl, by decide +kernel, by decide +kernel⟩
abbrev N_check_pairs : List Str := ["pairs", "seen", "place", "name", "many", "_"]
theorem sc_check_pairs : FnScope N_check_pairs ["pairs"] (defScope s_check_pairs) := ⟨rfl, rfl, rfl, by decide +kernel, rfl, by decide +kernel, by decide +kernel⟩
theorem walk_enumT {K : PySem.W.Frag} {a : Addr} {xs : List V} : Walk (IteT K a) xs.length (fun H => SqT K H a xs) (YPair (fun i => some (.int (i : Nat))) (fun i => xs[i]?)) := by
  refine ⟨fun i _ hi q => ⟨xs, xs[i], q, by simp [hi]⟩, fun _ q => ⟨xs, q, Nat.le_refl _⟩, fun i H v H' _ q y => ?_⟩
  obtain ⟨T, x, h1, h2, h3, h4⟩ := y
  exact ⟨T, .int (i : Nat), x, h1, h2, h3, rfl, h4 xs q⟩
theorem TupsAt.at {H : Hp} {ts : List Addr} {rows : List Row} (x : TupsAt H ts rows) {i : Nat} (h : i < rows.length) : ∃ t, ts[i]? = some t ∧ (ts.map V.ref)[i]? = some (.ref t) ∧ H t = some (.tup [.str (rows[i]).1, .int (rows[i]).2]) := by
  have h2 : i < ts.length := by rw [x.1]; exact h
  exact ⟨ts[i], List.getElem?_eq_getElem h2, by rw [List.getElem?_map, List.getElem?_eq_getElem h2]; rfl, x.2 i _ _ (List.getElem?_eq_getElem h2) (List.getElem?_eq_getElem h)⟩
theorem nd_take {α : Type} {l : List α} (nd : l.Nodup) {i : Nat} (h : i < l.length) : l[i] ∉ l.take i := fun q => by
  obtain ⟨j, hj, e⟩ := List.mem_iff_getElem.mp q
  rw [List.getElem_take] at e
  rw [List.length_take] at hj
  have := (List.getElem_inj nd).mp e
  omega
def spPairs : Sp := fun vs H Q _ => ∃ (p : Addr) (ts : List Addr) (rows : List Row), vs = [.ref p] ∧ H p = some (.tup (ts.map V.ref)) ∧ TupsAt H ts rows ∧ ROk 8 rows ∧ ∀ H', Same H H' → Q .non H'
section
variable {P : Program} {w : World} {K : PySem.W.Frag} {mg : Str → Option Value} {base : Heap}
theorem ok_all_letters (T : Bl mg) (D : Def0 K mg "all_letters" s_all_letters) : DefOk P w K mg base CX0 1 "all_letters" spTrueNm := by
  refine D.ok sc_all_letters (fun vs H Q E h => ?_) (fun _ _ _ _ _ _ us hl => match us, hl with | [_], _ => rfl) (fun f cdv A outer s H vs Q E hr h => ?_)
  · obtain ⟨z, rfl, _⟩ := h
    rfl
  · obtain ⟨z, rfl, nz, k⟩ := h
    refine ⟨_, (pss_one (ps_ret (pe_and (pe_cmpR op_ne (pv 0) pe_str (nomark _)) (pe_one (pe_callB (cr_all rfl) (by rfl) T.b_all (by decide +kernel) (pa_cons (pe_lc (own := [("letter", 1)]) (g := (gName 1)) (tt := tYes) rfl sc_all_letters.nd (pi_str (pv 0)) (blkOk_by (N := N_all_letters) (sc := defScope s_all_letters) (by decide +kernel)) (fun _ _ _ _ _ => (pg_name (i := 1) sc_all_letters.nd rfl (Or.inl rfl))) (fun _ _ _ _ _ => pts_nil) (fun _ _ _ _ _ => (pe_cmpR op_in_sign (pv 1) (pe_cS (by rfl) T.c_LETTERS) (by rfl)))) pa_nil)))))), ?_⟩
    have hne : ¬ V.str z = V.str "" := fun e => by
      have e2 := V.str.inj e
      have := nz.1
      rw [e2] at this
      exact absurd this (by decide)
    refine ⟨_, rfl, rfl, _, rfl, iteNN hne ?_⟩
    refine ⟨_, rfl, _, rfl, fun D hD => lc_it walk_str (fun i H' => Same H H' ∧ H' D = some (.lst ((List.replicate i true).map V.bl))) ⟨(Same.refl H).upd_new hD, upd_same⟩ (fun _ _ _ _ => trivial) ?_ ?_⟩
    · rintro i x H1 H2 hi ⟨q1, q2⟩ ⟨rfl, c, hc, rfl⟩
      have hcm : c ∈ z.cps.toList := List.mem_of_getElem? (by rw [Array.getElem?_toList]; exact hc)
      refine ⟨rfl, _, rfl, c, _, rfl, rfl, ?_⟩
      rw [decide_eq_true (in_letters c (nz.2.2 c hcm))]
      refine ⟨_, q2, ?_, q1.upd_own hD, ?_⟩
      · rw [List.length_map, List.length_replicate]
        have := nz.2.1
        exact lt_line (by omega)
      · rw [upd_same, List.replicate_succ', List.map_append]
        rfl
    · rintro H1 ⟨q1, q2⟩
      refine ⟨D, _, rfl, SqL.of q2, ?_⟩
      rw [show (List.replicate z.cps.size true).all id = true from by rw [List.all_eq_true]; intro x hx; exact (List.mem_replicate.mp hx).2]
      exact k H1 q1
theorem ok_is_name (T : Bl mg) (c_all_letters : DefOk P w K mg base CX0 1 "all_letters" spTrueNm) (D : Def0 K mg "is_name" s_is_name) : DefOk P w K mg base CX0 2 "is_name" spTrueNm := by
  refine D.ok sc_is_name (fun vs H Q E h => ?_) (fun _ _ _ _ _ _ us hl => match us, hl with | [_], _ => rfl) (fun f cdv A outer s H vs Q E hr h => ?_)
  · obtain ⟨z, rfl, _⟩ := h
    rfl
  · obtain ⟨z, rfl, nz, k⟩ := h
    refine ⟨_, (pss_one (ps_ret (pe_and (pe_cmpR op_le (pe_callB call_len_str (by rfl) T.b_len boot_len (pa_cons (pv 0) pa_nil)) (pe_cI (by rfl) T.c_LONGEST_NAME) (nomark _)) (pe_one (pe_d c_all_letters (hr.mono (by decide)) pass0 (pa_cons (pv 0) pa_nil)))))), ?_⟩
    refine ⟨_, rfl, _, rfl, nm_line nz, _, _, rfl, rfl, _, rfl, ?_⟩
    rw [decide_eq_true (show ((z.length : Nat) : Int) ≤ 8 by have := nz.2.1; rw [str_len]; omega)]
    refine iteT ?_
    exact ⟨_, rfl, z, rfl, nz, k⟩
theorem ok_check_pairs (T : Bl mg) (c_is_name : DefOk P w K mg base CX0 2 "is_name" spTrueNm) (D : Def0 K mg "check_pairs" s_check_pairs) : DefOk P w K mg base CX0 3 "check_pairs" spPairs := by
  refine D.ok sc_check_pairs (fun vs H Q E h => ?_) (fun _ _ _ _ _ _ us hl => match us, hl with | [_], _ => rfl) (fun f cdv A outer s H vs Q E hr h => ?_)
  · obtain ⟨p, ts, rows, rfl, _⟩ := h
    rfl
  · obtain ⟨p, ts, rows, rfl, hp, hT, R, k⟩ := h
    refine ⟨_, (pss_cons (ps_if (pt_cmpR op_gt (pe_callB call_len_seq (by rfl) T.b_len boot_len (pa_cons (pv 0) pa_nil)) (pe_cI (by rfl) T.c_MOST_KINDS) (nomark _))
        (pss_one ps_never)
        pss_nil)
      (pss_cons (ps_set (i := 1) sc_check_pairs.nd rfl (Or.inl rfl) (pe_callTy0 cr_set0K (by rfl) T.b_set (by decide +kernel)))
      (pss_cons (ps_for PassesOwn.never rfl (pi_enumT (by rfl) T.b_enumerate (pa_cons (pv 0) pa_nil)) (pg_tup (by rfl) (pgs_cons (pg_name (i := 2) sc_check_pairs.nd rfl (Or.inl rfl)) (pgs_cons (pg_tup (by rfl) (pgs_cons (pg_name (i := 3) sc_check_pairs.nd rfl (Or.inl rfl)) (pgs_cons (pg_name (i := 4) sc_check_pairs.nd rfl (Or.inl rfl)) pgs_nil))) pgs_nil)))
        (pss_cons (ps_if (PW.pt (pw_or (pt_not (pt_val (pe_d c_is_name (hr.mono (by decide)) pass0 (pa_cons (pv 3) pa_nil)))) (pw_or (pt_cmpR op_lt (pv 4) pe_int (nomark _)) (pw_or (pt_cmpR op_gt (pv 4) (pe_cI (by rfl) T.c_MOST_BRANCHES) (nomark _)) (pw_or1 (pt_cmpR or_sinK (pv 3) (pv 1) (by rfl)))))))
          (pss_one ps_never)
          pss_nil)
        (pss_one (ps_expr (pe_saddK (pv 1) (pa_cons (pv 3) pa_nil))))))
      (pss_one (ps_if (pt_cmpR op_notIn_seq pe_int (pe_lc (own := [("_", 5), ("many", 4)]) (g := (gTup K 2 (gCons (gName 5) (gCons (gName 4) gNil)))) (tt := tYes) rfl sc_check_pairs.nd (pi_tup (pv 0)) (blkOk_by (N := N_check_pairs) (sc := defScope s_check_pairs) (by decide +kernel)) (fun _ _ _ _ _ => (pg_tup (by rfl) (pgs_cons (pg_name (i := 5) sc_check_pairs.nd rfl (Or.inl rfl)) (pgs_cons (pg_name (i := 4) sc_check_pairs.nd rfl (Or.inl rfl)) pgs_nil)))) (fun _ _ _ _ _ => pts_nil) (fun _ _ _ _ _ => (pv 4))) (by rfl))
        (pss_one ps_never)
        pss_nil))))), ?_⟩
    have hlen : ts.length = rows.length := hT.1
    have R8 : rows.length ≤ 8 := by have := R.len; omega
    refine ⟨_, rfl, p, _, rfl, .inr (SqT.of hp), _, _, rfl, rfl, _, rfl, ?_⟩
    rw [decide_eq_false (show ¬ (8 : Int) < (((ts.map V.ref).length : Nat) : Int) by rw [List.length_map]; omega)]
    refine iteF ?_
    refine ⟨rfl, fun d hd => ?_⟩
    have s0 : Same H (upd H d (SetK P w d (fun _ => false) 0)) := (Same.refl H).upd_new hd
    have npd : ∀ {H' : Hp}, Same H H' → H' p = some (.tup (ts.map V.ref)) := fun q => q _ _ hp
    refine ⟨_, rfl, p, _, rfl, SqT.of (npd s0), for_it (walk_enumT (xs := ts.map V.ref)) (fun i σ H' => ∃ (x y z : Option V), σ = [some (.ref p), some (.ref d), x, y, z, none] ∧ Same H H' ∧ ∃ (S : Key → Bool) (n : Nat), H' d = some (SetK P w d S n) ∧ n ≤ i ∧ ∀ u : Str, S (.inr u) = true → u ∈ (rows.map (·.1)).take i)
      ⟨none, none, none, rfl, s0, _, 0, upd_same, Nat.le_refl _, fun u h => nomatch h⟩ (fun i σ H' _ ⟨_, _, _, _, q, _⟩ => SqT.of (npd q)) ?_ ?_⟩
    · rintro i v σ H1 H2 hi ⟨x, y, z, rfl, s1, S, n, hS, hn, hu⟩ ⟨P1, v1, v2, rfl, hP1, rfl, e1, e2⟩
      have hir : i < rows.length := by rw [List.length_map, hlen] at hi; exact hi
      obtain ⟨t, t1, t2, t3⟩ := hT.at hir
      have t2' : (ts.map V.ref)[i]? = some v2 := e2
      rw [t2] at t2'
      cases t2'
      cases e1
      have s2 := s1.upd_new (o := .tup [.int ((i : Nat) : Int), .ref t]) hP1
      have nm := R.nm _ (List.getElem_mem hir)
      have wd := R.wd _ (List.getElem_mem hir)
      refine ⟨P1, _, rfl, SqT.of upd_same, rfl, _, _, rfl, _, _, rfl, ?_⟩
      refine ⟨t, _, rfl, SqT.of (s2 _ _ t3), rfl, _, _, rfl, _, _, rfl, rfl, rfl, ?_⟩
      refine ⟨_, rfl, (rows[i]).1, rfl, nm, fun H3 s3 => ⟨true, rfl, ?_⟩⟩
      show if false = true then _ else _
      refine iteF ⟨_, rfl, _, _, rfl, rfl, _, rfl, ?_⟩
      rw [decide_eq_false (show ¬ (rows[i]).2 < 0 by omega)]
      refine iteF ⟨_, rfl, _, _, rfl, rfl, _, rfl, ?_⟩
      rw [decide_eq_false (show ¬ (3 : Int) < (rows[i]).2 by omega)]
      have hS3 : H3 d = some (SetK P w d S n) := s3 _ _ (by rw [upd_ne (ne_of_none hS hP1)]; exact hS)
      have hSf : S (.inr (rows[i]).1) = false := by
        cases q : S (.inr (rows[i]).1) with
        | false => rfl
        | true =>
          have z1 := hu _ q
          have z2 := nd_take (l := rows.map (·.1)) R.nd (i := i) (by rw [List.length_map]; exact hir)
          rw [List.getElem_map] at z2
          exact absurd z1 z2
      refine iteF ⟨_, rfl, _, rfl, .inr (rows[i]).1, d, S, n, rfl, rfl, hS3, _, rfl, ?_⟩
      rw [show (if false = true then !S (.inr (rows[i]).1) else S (.inr (rows[i]).1)) = false from hSf]
      refine iteF ?_
      refine ⟨_, rfl, ⟨d, S, n, rfl, hS3⟩, _, rfl, d, .inr (rows[i]).1, S, n, rfl, rfl, hS3, ?_, ?_⟩
      · show n + 1 < 4096
        omega
      · refine ⟨_, _, _, rfl, ?_, _, _, upd_same, ?_, ?_⟩
        · exact (s2.trans s3).upd_own hd
        · show (if S (Sum.inr (rows[i]).1) = true then n else n + 1) ≤ i + 1
          split <;> omega
        · intro u hu2
          have hg : (rows.map (·.1))[i]? = some (rows[i]).1 := by rw [List.getElem?_map, List.getElem?_eq_getElem hir]; rfl
          rw [← take_snoc hg]
          rcases Bool.or_eq_true_iff.mp hu2 with q | q
          · exact List.mem_append_left _ (hu u q)
          · have := of_decide_eq_true q
            rw [Sum.inr.inj this]
            exact List.mem_append_right _ List.mem_cons_self
    · rintro σ H1 ⟨x, y, z, rfl, s1, S, n, hS, hn, hu⟩
      refine ⟨_, rfl, p, rfl, ⟨_, SqT.of (npd s1)⟩, fun D hD => lc_it (walk_tup (xs := ts.map V.ref)) (fun i H' => Same H1 H' ∧ H' D = some (.lst (((rows.map (·.2)).take i).map V.int))) ⟨(Same.refl H1).upd_new hD, upd_same⟩ (fun i H' _ ⟨q, _⟩ => SqT.of (npd (s1.trans q))) ?_ ?_⟩
      · rintro i v H2 H3 hi ⟨q1, q2⟩ ⟨rfl, hv⟩
        have hir : i < rows.length := by rw [List.length_map, hlen] at hi; exact hi
        obtain ⟨t, t1, t2, t3⟩ := hT.at hir
        rw [t2] at hv
        cases hv
        refine ⟨t, _, rfl, SqT.of ((s1.trans q1) _ _ t3), rfl, _, _, rfl, _, _, rfl, rfl, rfl, ?_⟩
        refine ⟨_, rfl, _, q2, ?_, q1.upd_own hD, ?_⟩
        · rw [List.length_map, List.length_take]
          exact lt_line (by omega)
        · have hg : (rows.map (·.2))[i]? = some (rows[i]).2 := by rw [List.getElem?_map, List.getElem?_eq_getElem hir]; rfl
          rw [upd_same, ← take_snoc hg, List.map_append]
          rfl
      · rintro H2 ⟨q1, q2⟩
        rw [show (ts.map V.ref).length = (rows.map (·.2)).length by rw [List.length_map, List.length_map, hlen], List.take_length] at q2
        refine ⟨D, _, rfl, .inl (SqL.of q2), rfl, flat_ints _, _, rfl, ?_⟩
        have h0 : (0 : Int) ∈ rows.map (·.2) := by
          obtain ⟨q, hq, e⟩ := R.leaf
          rw [← e]
          exact List.mem_map_of_mem hq
        show if (!inV (V.int 0) ((rows.map (·.2)).map V.int)) = true then _ else _
        rw [mem_map_ints, decide_eq_true h0]
        refine iteF ?_
        exact k H2 (s1.trans q1)
end
end Sh
end
section
set_option Elab.async false
set_option linter.all false
set_option maxRecDepth 100000
set_option maxHeartbeats 2000000
set_option autoImplicit false
namespace L2
open PySem PySem.Spec PyProof.Rows
/-- a dict comprehension over any walk -/
theorem dc_it {J : It} {n : Nat} {G : Hp → Prop} {Y : Nat → Hp → V → Hp → Prop} (w : Walk J n G Y) {g : TG} {tt : TT} {tk tv : TE} {vs : List Nat} {σ : St} {H1 : Hp} {D : Addr} {Qd : Hp → Prop} (Pv : Nat → Hp → Prop) (h0 : Pv 0 (upd H1 D (.dK []))) (hG : ∀ i H, i ≤ n → Pv i H → G H)
    (hs : ∀ i x H H', i < n → Pv i H → Y i H x H' → g x (wipe σ vs) H' fun σ2 H2 => wipe σ2 vs = wipe σ vs ∧ tt σ2 H2 fun b H3 =>
      if b = true then tk σ2 H3 fun y H4 => tv σ2 H4 fun z H5 => ∃ kvs k, y = kV k ∧ H5 D = some (.dK kvs) ∧ kvs.length < sizeLine ∧ Pv (i + 1) (upd H5 D (.dK (putK kvs k z))) else Pv (i + 1) H3) (hd : ∀ H, Pv n H → Qd H) :
    ∃ W : Nat → Nat → Hp → Prop, (∃ m, W 0 m (upd H1 D (.dK []))) ∧ ∀ i m H, W i m H →
      (J.stop i H ∧ Qd H) ∨ (J.go i H ∧ ∃ Nx : Hp → Prop, (∀ H', Nx H' → ∃ m', m' < m ∧ W (i + 1) m' H') ∧ ∀ x H', J.yld i H x H' → g x (wipe σ vs) H' fun σ2 H2 => wipe σ2 vs = wipe σ vs ∧ tt σ2 H2 fun b H3 =>
        if b = true then tk σ2 H3 fun y H4 => tv σ2 H4 fun z H5 => ∃ kvs k, y = kV k ∧ H5 D = some (.dK kvs) ∧ kvs.length < sizeLine ∧ Nx (upd H5 D (.dK (putK kvs k z))) else Nx H3) := by
  refine ⟨fun i m H => m = n - i ∧ i ≤ n ∧ Pv i H, ⟨n, by simp, Nat.zero_le _, h0⟩, ?_⟩
  rintro i m H ⟨rfl, hi, p⟩
  have q := hG i H hi p
  by_cases hlt : i < n
  · exact .inr ⟨w.goes i H hlt q, Pv (i + 1), fun H' p' => ⟨n - (i + 1), by omega, rfl, hlt, p'⟩, fun x H' y => hs i x H H' hlt p (w.yields i H x H' hlt q y)⟩
  · have e : i = n := by omega
    subst e
    exact .inl ⟨w.stops H q, hd H p⟩
end L2
namespace Sh
open PySem PySem.Spec PyProof.Rows L2
open C8 (pss_cut tCut)
open Evl (ixN_nat)
def bedF (r k w rk : Addr) : List (Str × V) := [("rows", .ref r), ("kinds", .ref k), ("widths", .ref w), ("ranks", .ref rk)]
def wL (rows : List Row) : List (Key × V) := rows.map fun q => (.inr q.1, .int q.2)
def rkL (ns : List Str) : List (Key × V) := ns.zipIdx.map fun q => (.inr q.1, .int ((q.2 : Nat) : Int))
def BedAt (C : Addr) (H : Hp) (p : Addr) (rows : List Row) : Prop := ∃ (dx r k w rk : Addr) (ts : List Addr), H p = some (.ins C dx (bedF r k w rk)) ∧ H r = some (.tup (ts.map V.ref)) ∧ TupsAt H ts rows ∧
  H k = some (.tup ((rows.map (·.1)).map V.str)) ∧ H w = some (.dK (wL rows)) ∧ H rk = some (.dK (rkL (rows.map (·.1))))
theorem BedAt.same {C : Addr} {H H' : Hp} {p : Addr} {rows : List Row} (x : BedAt C H p rows) (s : Same H H') : BedAt C H' p rows := by
  obtain ⟨dx, r, k, w, rk, ts, h1, h2, h3, h4, h5, h6⟩ := x
  exact ⟨dx, r, k, w, rk, ts, s _ _ h1, s _ _ h2, h3.keep (TK.of_same s), s _ _ h4, s _ _ h5, s _ _ h6⟩
theorem BedAt.kp {C a : Addr} {H H' : Hp} {p : Addr} {rows : List Row} (x : BedAt C H p rows) (b : BagAt H a) (s : Kp a H H') : BedAt C H' p rows := by
  obtain ⟨dx, r, k, w, rk, ts, h1, h2, h3, h4, h5, h6⟩ := x
  have tk := s.tk b
  obtain ⟨z0, z1, z2, z3, cs, hb, _⟩ := b
  exact ⟨dx, r, k, w, rk, ts, s _ _ h1 (ne_of h1 hb (fun e => nomatch e)), tk _ _ h2, h3.keep tk, tk _ _ h4, s _ _ h5 (ne_of h5 hb (fun e => nomatch e)), s _ _ h6 (ne_of h6 hb (fun e => nomatch e))⟩
/-- what the written part says of the class Bed -/
structure BedT (K : PySem.W.Frag) (C : Addr) : Prop where
  cl : Cls K C
  nR : NoAttr K C "rows"
  nK : NoAttr K C "kinds"
  nW : NoAttr K C "widths"
  nRk : NoAttr K C "ranks"
theorem s_ne : ¬ ("rows" : Str) = "kinds" ∧ ¬ ("rows" : Str) = "widths" ∧ ¬ ("rows" : Str) = "ranks" ∧ ¬ ("kinds" : Str) = "widths" ∧ ¬ ("kinds" : Str) = "ranks" ∧ ¬ ("widths" : Str) = "ranks" := by decide +kernel
theorem put1 (r k : Addr) : putF "kinds" (.ref k) [("rows", .ref r)] = [(("rows" : Str), V.ref r), ("kinds", .ref k)] := by simp [putF, s_ne]
theorem put2 (r k w : Addr) : putF "widths" (.ref w) [("rows", .ref r), ("kinds", .ref k)] = [(("rows" : Str), V.ref r), ("kinds", .ref k), ("widths", .ref w)] := by simp [putF, s_ne]
theorem put3 (r k w rk : Addr) : putF "ranks" (.ref rk) [("rows", .ref r), ("kinds", .ref k), ("widths", .ref w)] = bedF r k w rk := by simp [putF, s_ne, bedF]
theorem lk_k2 (r k w : Addr) : ([("rows", .ref r), ("kinds", .ref k), ("widths", .ref w)] : List (Str × V)).lookup ("kinds" : Str) = some (.ref k) := by
  have h : (("kinds" : Str) == "rows") = false := by decide +kernel
  simp [List.lookup, h]
theorem lk_rows (r k w rk : Addr) : (bedF r k w rk).lookup ("rows" : Str) = some (.ref r) := by simp [bedF, List.lookup]
theorem lk_kinds (r k w rk : Addr) : (bedF r k w rk).lookup ("kinds" : Str) = some (.ref k) := by
  have h : (("kinds" : Str) == "rows") = false := by decide +kernel
  simp [bedF, List.lookup, h]
theorem lk_widths (r k w rk : Addr) : (bedF r k w rk).lookup ("widths" : Str) = some (.ref w) := by
  have h : (("widths" : Str) == "rows") = false := by decide +kernel
  have h2 : (("widths" : Str) == "kinds") = false := by decide +kernel
  simp [bedF, List.lookup, h, h2]
theorem valV_none {kvs : List (Key × V)} {s : Str} (h : ∀ kv ∈ kvs, kv.1 ≠ .inr s) : valV kvs (.inr s) = none := by
  unfold valV
  rw [List.find?_eq_none.mpr (fun kv hk => by simpa using h kv hk)]
  rfl
/-- __init__ at a new instance -/
def spBedI (C : Addr) : Sp := fun vs H Q _ => ∃ (x dx p : Addr) (ts : List Addr) (rows : List Row), vs = [.ref x, .ref p] ∧ H x = some (.ins C dx []) ∧ H p = some (.tup (ts.map V.ref)) ∧ TupsAt H ts rows ∧ ROk 8 rows ∧ ∀ H', (∀ b o, H b = some o → b ≠ x → H' b = some o) → BedAt C H' x rows → Q .non H'
abbrev N_init__ : List Str := ["self", "kinds", "name", "_", "many", "rank"]
theorem sc_init__ : FnScope N_init__ ["self", "kinds"] (defScope s_init__) := ⟨rfl, rfl, rfl, by decide +kernel, rfl, by decide +kernel, by decide +kernel⟩
section
variable {P : Program} {w : World} {K : PySem.W.Frag} {mg : Str → Option Value} {base : Heap} {C : Addr}
theorem body_bedI (T : Bl mg) (B : BedT K C) (c_check_pairs : DefOk P w K mg base CX0 3 "check_pairs" spPairs) {f : Addr} {cdv : Value} {A : Around} {outer : List Env} {s : Shared} {H : Hp} {vs : List V} {Q : VK} {E : XK} (hr : Room 3 (A.deeper (envOfC "Bed.__init__" (defScope s_init__) s.heap.objs.size f cdv))) (h : spBedI C vs H Q E) :
    ∃ t, PSs (cxOf CX0 P w K mg base N_init__ "Bed.__init__" (defScope s_init__) f cdv A outer s H E).nox (defBody s_init__) t ∧ t { nx := fun _ H' => Q .non H', rt := Q } (start N_init__ vs) H := by
  obtain ⟨x, dx, p, ts, rows, rfl, hx, hp, hT, R, k⟩ := h
  refine ⟨_, (pss_cons (ps_expr (pe_d c_check_pairs (hr.mono (by decide)) pass0 (pa_cons (pv 1) pa_nil)))
    (pss_cons (ps_fld (pv 0) (pv 1) rfl)
    (pss_cons (ps_fld (pv 0) (pe_callTy call_tuple_of (by rfl) T.b_tuple (by decide +kernel) (pa_cons (pe_lc (own := [("name", 2), ("_", 3)]) (g := (gTup K 2 (gCons (gName 2) (gCons (gName 3) gNil)))) (tt := tYes) rfl sc_init__.nd (pi_tup (pv 1)) (blkOk_by (N := N_init__) (sc := defScope s_init__) (by decide +kernel)) (fun _ _ _ _ _ => (pg_tup (by rfl) (pgs_cons (pg_name (i := 2) sc_init__.nd rfl (Or.inl rfl)) (pgs_cons (pg_name (i := 3) sc_init__.nd rfl (Or.inl rfl)) pgs_nil)))) (fun _ _ _ _ _ => pts_nil) (fun _ _ _ _ _ => (pv 2))) pa_nil)) rfl)
    (pss_cons (ps_fld (pv 0) (pe_dc (own := [("name", 2), ("many", 4)]) (g := (gTup K 2 (gCons (gName 2) (gCons (gName 4) gNil)))) (tt := tYes) rfl sc_init__.nd (pi_tup (pv 1)) (blkOk_by (N := N_init__) (sc := defScope s_init__) (by decide +kernel)) (fun _ _ _ _ _ => (pg_tup (by rfl) (pgs_cons (pg_name (i := 2) sc_init__.nd rfl (Or.inl rfl)) (pgs_cons (pg_name (i := 4) sc_init__.nd rfl (Or.inl rfl)) pgs_nil)))) (fun _ _ _ _ _ => pts_nil) (fun _ _ _ _ _ => (pv 2)) (fun _ _ _ _ _ => (pv 4))) rfl)
    (pss_one (ps_fld (pv 0) (pe_dc (own := [("rank", 5), ("name", 2)]) (g := (gTup K 2 (gCons (gName 5) (gCons (gName 2) gNil)))) (tt := tYes) rfl sc_init__.nd (pi_enumT (by rfl) T.b_enumerate (pa_cons (pe_fld (pv 0) rfl) pa_nil)) (blkOk_by (N := N_init__) (sc := defScope s_init__) (by decide +kernel)) (fun _ _ _ _ _ => (pg_tup (by rfl) (pgs_cons (pg_name (i := 5) sc_init__.nd rfl (Or.inl rfl)) (pgs_cons (pg_name (i := 2) sc_init__.nd rfl (Or.inl rfl)) pgs_nil)))) (fun _ _ _ _ _ => pts_nil) (fun _ _ _ _ _ => (pv 2)) (fun _ _ _ _ _ => (pv 5))) rfl)))))), ?_⟩
  have hlen : ts.length = rows.length := hT.1
  have R8 : rows.length ≤ 8 := by have := R.len; omega
  have npx : p ≠ x := ne_of hp hx (fun e => nomatch e)
  refine ⟨_, rfl, p, ts, rows, rfl, hp, hT, R, fun H1 s1 => ?_⟩
  refine ⟨_, rfl, _, rfl, x, C, dx, _, rfl, s1 _ _ hx, B.cl, B.nR, (by show 0 < 1000; decide), ?_⟩
  generalize e2 : upd H1 x (.ins C dx (putF "rows" (.ref p) [])) = H2
  have hx2 : H2 x = some (.ins C dx [(("rows" : Str), V.ref p)]) := by rw [← e2, upd_same]; rfl
  have k2 : Kp x H H2 := by rw [← e2]; exact (Kp.same s1).upd
  have tk1 : ∀ {H H' : Hp} {fs : List (Str × V)}, H x = some (.ins C dx fs) → Kp x H H' → TK H H' := fun h q t xs ht => q t _ ht (ne_of ht h (fun e => nomatch e))
  have tk2 := tk1 hx k2
  have hp2 : H2 p = some (.tup (ts.map V.ref)) := tk2 _ _ hp
  have hT2 := hT.keep tk2
  clear e2
  -- kinds
  refine ⟨_, rfl, p, rfl, ⟨_, SqT.of hp2⟩, fun D hD => lc_it (walk_tup (xs := ts.map V.ref)) (fun i H' => Same H2 H' ∧ H' D = some (.lst (((rows.map (·.1)).take i).map V.str))) ⟨(Same.refl H2).upd_new hD, upd_same⟩ (fun i H' _ ⟨q, _⟩ => SqT.of (q _ _ hp2)) ?_ ?_⟩
  · rintro i v H3 H4 hi ⟨q1, q2⟩ ⟨rfl, hv⟩
    have hir : i < rows.length := by rw [List.length_map, hlen] at hi; exact hi
    obtain ⟨t, t1, t2, t3⟩ := hT2.at hir
    rw [t2] at hv
    cases hv
    refine ⟨t, _, rfl, SqT.of (q1 _ _ t3), rfl, _, _, rfl, _, _, rfl, rfl, rfl, ?_⟩
    refine ⟨_, rfl, _, q2, ?_, q1.upd_own hD, ?_⟩
    · rw [List.length_map, List.length_take]
      exact lt_line (by omega)
    · have hg : (rows.map (·.1))[i]? = some (rows[i]).1 := by rw [List.getElem?_map, List.getElem?_eq_getElem hir]; rfl
      rw [upd_same, ← take_snoc hg, List.map_append]
      rfl
  rintro H3 ⟨q1, q2⟩
  rw [show (ts.map V.ref).length = (rows.map (·.1)).length by rw [List.length_map, List.length_map, hlen], List.take_length] at q2
  refine ⟨D, _, rfl, .inl ⟨SqL.of q2, fun l hl => ?_⟩⟩
  have nlx : l ≠ x := (ne_of_none (q1 _ _ hx2) hl).symm
  refine ⟨_, rfl, x, C, dx, _, rfl, (by rw [upd_ne nlx.symm]; exact q1 _ _ hx2), B.cl, B.nK, (by show 1 < 1000; decide), ?_⟩
  rw [put1]
  have k3 : Kp x H (upd H3 l (.tup ((rows.map (·.1)).map V.str))) := (k2.trans (Kp.same q1)).upd_new hl
  generalize e4 : upd (upd H3 l (.tup ((rows.map (·.1)).map V.str))) x (.ins C dx [(("rows" : Str), V.ref p), ("kinds", .ref l)]) = H4
  have hx4 : H4 x = some (.ins C dx [(("rows" : Str), V.ref p), ("kinds", .ref l)]) := by rw [← e4, upd_same]
  have k4 : Kp x H H4 := by rw [← e4]; exact k3.upd
  have hl4 : H4 l = some (.tup ((rows.map (·.1)).map V.str)) := by rw [← e4, upd_ne nlx, upd_same]
  have tk4 := tk1 hx k4
  have hp4 : H4 p = some (.tup (ts.map V.ref)) := tk4 _ _ hp
  have hT4 := hT.keep tk4
  clear e4
  -- widths
  refine ⟨_, rfl, p, rfl, ⟨_, SqT.of hp4⟩, fun D2 hD2 => dc_it (walk_tup (xs := ts.map V.ref)) (fun i H' => Same H4 H' ∧ H' D2 = some (.dK (wL (rows.take i)))) ⟨(Same.refl H4).upd_new hD2, upd_same⟩ (fun i H' _ ⟨q, _⟩ => SqT.of (q _ _ hp4)) ?_ ?_⟩
  · rintro i v H5 H6 hi ⟨p1, p2⟩ ⟨rfl, hv⟩
    have hir : i < rows.length := by rw [List.length_map, hlen] at hi; exact hi
    obtain ⟨t, t1, t2, t3⟩ := hT4.at hir
    rw [t2] at hv
    cases hv
    refine ⟨t, _, rfl, SqT.of (p1 _ _ t3), rfl, _, _, rfl, _, _, rfl, rfl, rfl, ?_⟩
    refine ⟨_, rfl, _, rfl, _, .inr (rows[i]).1, rfl, p2, ?_, p1.upd_own hD2, ?_⟩
    · unfold wL
      rw [List.length_map, List.length_take]
      exact lt_line (by omega)
    · rw [upd_same, putK_new, ← take_snoc (List.getElem?_eq_getElem hir)]
      · unfold wL
        rw [List.map_append]
        rfl
      · refine valV_none fun kv hk e => ?_
        obtain ⟨q, hq, rfl⟩ := List.mem_map.mp hk
        have z2 := nd_take (l := rows.map (·.1)) R.nd (i := i) (by rw [List.length_map]; exact hir)
        rw [List.getElem_map, ← List.map_take] at z2
        have e2 : q.1 = (rows[i]).1 := Sum.inr.inj e
        exact z2 (by rw [← e2]; exact List.mem_map_of_mem hq)
  rintro H5 ⟨p1, p2⟩
  rw [show (ts.map V.ref).length = rows.length by rw [List.length_map, hlen], List.take_length] at p2
  have nDx2 : D2 ≠ x := (ne_of_none hx4 hD2).symm
  refine ⟨_, rfl, x, C, dx, _, rfl, p1 _ _ hx4, B.cl, B.nW, (by show 2 < 1000; decide), ?_⟩
  rw [put2]
  generalize e6 : upd H5 x (.ins C dx [(("rows" : Str), V.ref p), ("kinds", .ref l), ("widths", .ref D2)]) = H6
  have hx6 : H6 x = some (.ins C dx [(("rows" : Str), V.ref p), ("kinds", .ref l), ("widths", .ref D2)]) := by rw [← e6, upd_same]
  have k46 : Kp x H4 H6 := by rw [← e6]; exact (Kp.same p1).upd
  have k6 : Kp x H H6 := k4.trans k46
  have hl6 : H6 l = some (.tup ((rows.map (·.1)).map V.str)) := k46 _ _ hl4 nlx
  have hw6 : H6 D2 = some (.dK (wL rows)) := by rw [← e6, upd_ne nDx2]; exact p2
  clear e6
  -- ranks
  refine ⟨_, rfl, x, C, dx, _, _, rfl, hx6, B.cl, B.nK, lk_k2 _ _ _, l, _, rfl, SqT.of hl6, fun D3 hD3 => dc_it (walk_enumT (xs := (rows.map (·.1)).map V.str)) (fun i H' => Same H6 H' ∧ H' D3 = some (.dK ((rkL (rows.map (·.1))).take i))) ⟨(Same.refl H6).upd_new hD3, upd_same⟩ (fun i H' _ ⟨q, _⟩ => SqT.of (q _ _ hl6)) ?_ ?_⟩
  · rintro i v H7 H8 hi ⟨p3, p4⟩ ⟨P1, v1, v2, rfl, hP1, rfl, e1, e2⟩
    have hir : i < rows.length := by rw [List.length_map, List.length_map] at hi; exact hi
    cases e1
    have e2' : ((rows.map (·.1)).map V.str)[i]? = some v2 := e2
    rw [List.getElem?_map, List.getElem?_map, List.getElem?_eq_getElem hir] at e2'
    cases e2'
    have hD3' : (upd H7 P1 (.tup [.int ((i : Nat) : Int), .str (rows[i]).1])) D3 = some (.dK ((rkL (rows.map (·.1))).take i)) := by rw [upd_ne (ne_of_none p4 hP1)]; exact p4
    refine ⟨P1, _, rfl, SqT.of upd_same, rfl, _, _, rfl, _, _, rfl, rfl, rfl, ?_⟩
    refine ⟨_, rfl, _, rfl, _, .inr (rows[i]).1, rfl, hD3', ?_, (p3.upd_new hP1).upd_own hD3, ?_⟩
    · rw [List.length_take]
      unfold rkL
      rw [List.length_map, List.length_zipIdx, List.length_map]
      exact lt_line (by omega)
    · have hg : (rkL (rows.map (·.1)))[i]? = some (.inr (rows[i]).1, .int ((i : Nat) : Int)) := by
        unfold rkL
        rw [List.getElem?_map, List.getElem?_zipIdx, List.getElem?_map, List.getElem?_eq_getElem hir]
        simp
      rw [upd_same, putK_new, ← take_snoc hg]
      refine valV_none fun kv hk e => ?_
      obtain ⟨j, hj, ej⟩ := List.mem_iff_getElem.mp hk
      rw [List.length_take] at hj
      rw [List.getElem_take] at ej
      have hjr : j < rows.length := by omega
      have hg2 : (rkL (rows.map (·.1)))[j]? = some (.inr (rows[j]).1, .int ((j : Nat) : Int)) := by
        unfold rkL
        rw [List.getElem?_map, List.getElem?_zipIdx, List.getElem?_map, List.getElem?_eq_getElem hjr]
        simp
      have ej2 := List.getElem?_eq_getElem (l := rkL (rows.map (·.1))) (i := j) (by unfold rkL; rw [List.length_map, List.length_zipIdx, List.length_map]; exact hjr)
      rw [hg2] at ej2
      rw [← ej, ← Option.some.inj ej2] at e
      have e3 : (rows[j]).1 = (rows[i]).1 := Sum.inr.inj e
      have nd := R.nd
      have e4 : (rows.map (·.1))[j]'(by rw [List.length_map]; exact hjr) = (rows.map (·.1))[i]'(by rw [List.length_map]; exact hir) := by rw [List.getElem_map, List.getElem_map]; exact e3
      have := (List.getElem_inj nd).mp e4
      omega
  rintro H7 ⟨p3, p4⟩
  rw [show ((rows.map (·.1)).map V.str).length = (rkL (rows.map (·.1))).length by unfold rkL; simp, List.take_length] at p4
  have nDx3 : D3 ≠ x := (ne_of_none hx6 hD3).symm
  refine ⟨_, rfl, x, C, dx, _, rfl, p3 _ _ hx6, B.cl, B.nRk, (by show 3 < 1000; decide), ?_⟩
  rw [put3]
  have k8 : Kp x H (upd H7 x (.ins C dx (bedF p l D2 D3))) := (k6.trans (Kp.same p3)).upd
  refine k _ k8 ⟨dx, p, l, D2, D3, ts, upd_same, k8 _ _ hp npx, hT.keep (tk1 hx k8), ?_, ?_, ?_⟩
  · rw [upd_ne nlx]; exact p3 _ _ hl6
  · rw [upd_ne nDx2]; exact p3 _ _ hw6
  · rw [upd_ne nDx3]; exact p4
end
end Sh
end
section
set_option Elab.async false
set_option linter.all false
set_option maxRecDepth 100000
set_option maxHeartbeats 2000000
set_option autoImplicit false
namespace Sh
open PySem PySem.Spec PyProof.Rows L2
open C8 (pss_cut tCut)
open Evl (ixN_nat)
theorem ifn {c A B : Prop} [Decidable c] (h : ¬ c) (b : B) : if c then A else B := by
  rw [if_neg h]
  exact b
theorem ifp {c A B : Prop} [Decidable c] (h : c) (a : A) : if c then A else B := by
  rw [if_pos h]
  exact a
def spBedS (C : Addr) : Sp := fun vs H Q E => ∃ ws rest, vs = ws ++ rest ∧ ws.length = (["self"] : List Str).length ∧ rest.length ≤ sizeLine ∧ ∀ p, H p = Option.none → spBedI C (ws ++ [V.ref p]) (upd H p (.tup rest)) Q E
def BedOk (P : Program) (w : World) (K : PySem.W.Frag) (mg : Str → Option Value) (base : Heap) (C : Addr) (k : Nat) : Prop := mg "Bed" = some (.ref C) ∧ ∃ fI, Mk K C fI ∧ FnR P w K mg base CX0 k fI (spBedS C)
section
variable {P : Program} {w : World} {K : PySem.W.Frag} {mg : Str → Option Value} {base : Heap} {C : Addr}
end
end Sh
end
section
set_option Elab.async false
set_option linter.all false
set_option maxRecDepth 100000
set_option maxHeartbeats 2000000
set_option autoImplicit false
namespace Sh
open PySem PySem.Spec PyProof.Rows L2
open C8 (pss_cut tCut)
open Evl (ixN_nat)
structure Bk (mg : Str → Option Value) : Prop extends Bl mg where
  b_zip : mg "zip" = none
  b_ValueError : mg "ValueError" = none
def sV (l : List Str) : List V := l.map V.str
/-- the number of branches of a kind; 0 of what is no kind -/
def wR (rows : List Row) (z : Str) : Nat := match rows.find? (fun q => decide (q.1 = z)) with
  | some q => q.2.toNat
  | none => 0
/-- .. or -1 -/
def nmO (rows : List Row) (z : Str) : Int := match rows.find? (fun q => decide (q.1 = z)) with
  | some q => q.2
  | none => -1
theorem find_wL (rows : List Row) (z : Str) : valV (wL rows) (.inr z) = (rows.find? (fun q => decide (q.1 = z))).map fun q => V.int q.2 := by
  unfold valV wL
  rw [List.find?_map]
  have e : ((fun kv : Key × V => decide (kv.1 = Sum.inr z)) ∘ fun q : Row => ((.inr q.1 : Key), V.int q.2)) = fun q => decide (q.1 = z) := by
    funext q
    exact key_rr q.1 z
  rw [e, Option.map_map]
  rfl
theorem nm_case {rows : List Row} {m : Int} (R : ROk m rows) (z : Str) : (nmO rows z = -1 ∧ wR rows z = 0 ∧ valV (wL rows) (.inr z) = none ∧ ∀ q ∈ rows, q.1 ≠ z) ∨ (nmO rows z = ((wR rows z : Nat) : Int) ∧ wR rows z ≤ 3 ∧ valV (wL rows) (.inr z) = some (.int ((wR rows z : Nat) : Int)) ∧ ∃ q ∈ rows, q.1 = z) := by
  rw [find_wL]
  unfold nmO wR
  cases hf : rows.find? (fun q => decide (q.1 = z)) with
  | none => exact .inl ⟨rfl, rfl, rfl, fun q hq e => absurd (List.find?_eq_none.mp hf q hq) (by simp [e])⟩
  | some q =>
    have hm := List.mem_of_find?_eq_some hf
    have wd := R.wd q hm
    have e : ((q.2.toNat : Nat) : Int) = q.2 := by omega
    exact .inr ⟨e.symm, by show q.2.toNat ≤ 3; omega, by rw [Option.map_some]; show some (V.int q.2) = some (V.int ((q.2.toNat : Nat) : Int)); rw [e], q, hm, by have hp := List.find?_some hf; exact of_decide_eq_true hp⟩
theorem wR_le {rows : List Row} {m : Int} (R : ROk m rows) (z : Str) : wR rows z ≤ 3 := by
  rcases nm_case R z with h | h <;> omega
theorem wR_mem {rows : List Row} {m : Int} (R : ROk m rows) {z : Str} (h : ∃ q ∈ rows, q.1 = z) : ∃ q ∈ rows, q.1 = z ∧ rows.find? (fun q => decide (q.1 = z)) = some q ∧ ((wR rows z : Nat) : Int) = q.2 ∧ wR rows z ≤ 3 := by
  obtain ⟨q, hq, e⟩ := h
  cases hf : rows.find? (fun q => decide (q.1 = z)) with
  | none => exact absurd (List.find?_eq_none.mp hf q hq) (by simp [e])
  | some q2 =>
    have hm := List.mem_of_find?_eq_some hf
    have hp := List.find?_some hf
    have wd := R.wd q2 hm
    have ew : wR rows z = q2.2.toNat := by unfold wR; rw [hf]
    exact ⟨q2, hm, of_decide_eq_true hp, rfl, by rw [ew]; omega, by rw [ew]; omega⟩
theorem val_wL {rows : List Row} {m : Int} (R : ROk m rows) {z : Str} (h : ∃ q ∈ rows, q.1 = z) : valV (wL rows) (.inr z) = some (.int ((wR rows z : Nat) : Int)) := by
  obtain ⟨q, _, _, hf, e, _⟩ := wR_mem R h
  rw [find_wL, hf, e]
  rfl
structure PlantOk (rows : List Row) (l : List Str) : Prop where
  f : Mth.forest (wR rows) l 1 = true
  k : ∀ z ∈ l, ∃ q ∈ rows, q.1 = z
  sz : l.length ≤ 2000
theorem PlantOk.pos {rows : List Row} {l : List Str} (x : PlantOk rows l) : 0 < l.length := List.length_pos_iff.mpr (Mth.forest_pos _ x.f)
/-- a stump -/
structure StumpOk (rows : List Row) (l : List Str) : Prop where
  f : Mth.forest (wR rows) l 1 = true
  k : ∀ z ∈ l, z = "*" ∨ ∃ q ∈ rows, q.1 = z
  sz : l.length ≤ 2000
theorem StumpOk.pos {rows : List Row} {l : List Str} (x : StumpOk rows l) : 0 < l.length := List.length_pos_iff.mpr (Mth.forest_pos _ x.f)
/-- the least place at which a row stops being one -/
def wO (rows : List Row) (hole : Bool) (z : Str) : Option Nat := if hole = true ∧ z = "*" then some 0 else if nmO rows z < 0 then none else some (wR rows z)
def fl (f : Str → Option Nat) : List Str → Nat → Nat → Option Nat
  | [], 0, _ => none
  | [], _ + 1, i => some i
  | _ :: _, 0, i => some i
  | z :: r, n + 1, i => match f z with
    | none => some i
    | some k => fl f r (n + k) (i + 1)
def fault (rows : List Row) (hole : Bool) (l : List Str) : Option Nat := fl (wO rows hole) l 1 0
theorem fl_ok {f : Str → Option Nat} {w : Str → Nat} : ∀ {l : List Str} {n i : Nat}, (∀ z k, f z = some k → w z = k) → fl f l n i = none → Mth.forest w l n = true ∧ ∀ z ∈ l, (f z).isSome = true
  | [], 0, _, _, _ => ⟨rfl, fun _ h => nomatch h⟩
  | [], _ + 1, _, _, h => nomatch h
  | _ :: _, 0, _, _, h => nomatch h
  | z :: r, n + 1, i, hw, h => by
    unfold fl at h
    cases e : f z with
    | none => rw [e] at h; cases h
    | some k =>
      rw [e] at h
      obtain ⟨h1, h2⟩ := fl_ok hw h
      refine ⟨?_, fun y hy => ?_⟩
      · unfold Mth.forest
        rw [hw z k e, Nat.add_comm]
        exact h1
      · rcases List.mem_cons.mp hy with q | q
        · rw [q, e]; rfl
        · exact h2 y q
theorem fl_le {f : Str → Option Nat} : ∀ {l : List Str} {n i j : Nat}, fl f l n i = some j → j ≤ i + l.length
  | [], 0, _, _, h => nomatch h
  | [], _ + 1, i, j, h => by cases h; exact Nat.le_refl _
  | _ :: _, 0, i, j, h => by cases h; omega
  | z :: r, n + 1, i, j, h => by
    unfold fl at h
    rw [List.length_cons]
    cases e : f z with
    | none => rw [e] at h; cases h; omega
    | some k => rw [e] at h; have := fl_le h; omega
theorem nm_star {rows : List Row} {m : Int} (R : ROk m rows) : nmO rows "*" = -1 := by
  rcases nm_case R "*" with q | q
  · exact q.1
  · obtain ⟨_, _, _, x, hx, e⟩ := q
    have n := (R.nm x hx).2.2 42 (by rw [e]; decide +kernel)
    omega
theorem wO_w {rows : List Row} {m : Int} (R : ROk m rows) {hole : Bool} {z : Str} {k : Nat} (h : wO rows hole z = some k) : wR rows z = k := by
  unfold wO at h
  split at h
  · rename_i c
    cases h
    rw [c.2]
    have star := nm_star R
    rcases nm_case R "*" with q | q
    · exact q.2.1
    · omega
  · split at h
    · cases h
    · cases h
      rfl
end Sh
end
section
set_option Elab.async false
set_option linter.all false
set_option maxRecDepth 100000
set_option maxHeartbeats 2000000
set_option autoImplicit false
namespace Sh
open PySem PySem.Spec PyProof.Rows L2
open C8 (pss_cut tCut)
open Evl (ixN_nat)
theorem RowsAt.same {H H' : Hp} {r : Addr} {rows : List Row} (x : RowsAt H r rows) (s : Same H H') : RowsAt H' r rows := by
  obtain ⟨ts, a, b⟩ := x
  exact ⟨ts, s _ _ a, b.keep (TK.of_same s)⟩
structure XA where
  T : Addr
  P : Addr
  S : Addr
  N : Addr
  U : Addr
  W : Addr
inductive Ex where
  | many
  | plant (i : Nat)
  | stump (i : Nat)
  | path (a : Addr)
  | kind (z : Str)
  | wrong (i j : Nat)
def Ex.cls (A : XA) : Ex → Addr
  | .many => A.T
  | .plant _ => A.P
  | .stump _ => A.S
  | .path _ => A.N
  | .kind _ => A.U
  | .wrong _ _ => A.W
def tmF : List (Str × V) := xfs ["what", "limit"] [.str "knots", .int 2000] []
def Ex.fs : Ex → List (Str × V)
  | .many => tmF
  | .plant i => xfs ["place"] [.int (i : Nat)] []
  | .stump i => xfs ["place"] [.int (i : Nat)] []
  | .path a => xfs ["path"] [.ref a] []
  | .kind z => xfs ["kind"] [.str z] []
  | .wrong i j => xfs ["wanted", "given"] [.int (i : Nat), .int (j : Nat)] []
def tmP : List V → Prop := fun vs => vs = [.str "knots", .int 2000]
def plP : List V → Prop := fun vs => ∃ i : Nat, vs = [.int (i : Nat)] ∧ i ≤ 10000
/-- a drawn word: short, of code points that are ones -/
def Kin (z : Str) : Prop := z.length ≤ 100 ∧ ∀ c ∈ z.cps.toList, c < 16 ^ 8
def ukP : List V → Prop := fun vs => ∃ z : Str, vs = [.str z] ∧ Kin z
def wrP : List V → Prop := fun vs => ∃ i j : Nat, vs = [.int (i : Nat), .int (j : Nat)] ∧ i ≤ 10000 ∧ j ≤ 10000
structure XS (P : Program) (w : World) (K : PySem.W.Frag) (mg : Str → Option Value) (A : XA) : Prop where
  xT : PySem.SupX.SupCls P w K mg "TooMany" A.T ["what", "limit"] tmP
  xP : PySem.SupX.SupCls P w K mg "InvalidPlant" A.P ["place"] plP
  xU : PySem.SupX.SupCls P w K mg "UnknownKind" A.U ["kind"] ukP
  xW : PySem.SupX.SupCls P w K mg "WrongBranches" A.W ["wanted", "given"] wrP
/-- what is wanted where x is raised -/
def Rz (A : XA) (E : XK) (H : Hp) (x : Ex) : Prop := ∀ H' d, Same H H' → H' d = none → E (.ref (x.cls A)) (some d) (upd H' d (.xd x.fs))
theorem Rz.same {A : XA} {E : XK} {H H1 : Hp} {x : Ex} (h : Rz A E H x) (s : Same H H1) : Rz A E H1 x := fun H' d s' hd => h H' d (s.trans s') hd
def due (rows : List Row) (hole : Bool) (l : List Str) : Option Ex := if 2000 < l.length then some .many else (fault rows hole l).map (if hole = true then Ex.stump else Ex.plant)
/-- either way -/
def Way (A : XA) (E : XK) (H : Hp) (o : Option Ex) (ok : Prop) : Prop := match o with
  | none => ok
  | some x => Rz A E H x
theorem wO_some {rows : List Row} {m : Int} (R : ROk m rows) {hole : Bool} {z : Str} (h : (wO rows hole z).isSome = true) : (hole = true ∧ z = "*") ∨ ∃ q ∈ rows, q.1 = z := by
  unfold wO at h
  split at h
  · exact .inl ‹_›
  · rename_i c
    split at h
    · cases h
    · rename_i c2
      rcases nm_case R z with q | q
      · omega
      · exact .inr q.2.2.2
theorem due_plant {rows : List Row} {m : Int} (R : ROk m rows) {l : List Str} (h : due rows false l = none) : PlantOk rows l := by
  unfold due at h
  split at h
  · cases h
  · rename_i c
    have e : fault rows false l = none := by
      cases e : fault rows false l with
      | none => rfl
      | some i => rw [e] at h; cases h
    obtain ⟨h1, h2⟩ := fl_ok (w := wR rows) (fun z k q => wO_w R q) e
    exact ⟨h1, fun z hz => by rcases wO_some R (h2 z hz) with q | q; exact absurd q.1 (by decide); exact q, by omega⟩
def lvs (hole : Bool) : List V := if hole = true then [.str "*"] else []
def spSize (K : PySem.W.Frag) (CT : Addr) : Sp := fun vs H Q E => ∃ (t : Addr) (xs : List V), vs = [.ref t] ∧ (SqL K H t xs ∨ SqT K H t xs) ∧ (xs.length ≤ 2000 → Q .non H) ∧ (2000 < xs.length → ∀ d, H d = none → E (.ref CT) (some d) (upd H d (.xd tmF)))
def ansF : Option Nat → V
  | none => .non
  | some i => .int (i : Nat)
def spFault (C : Addr) : Sp := fun vs H Q _ => ∃ (b t e : Addr) (rows : List Row) (l : List Str) (hole : Bool), vs = [.ref b, .ref t, .ref e] ∧ BedAt C H b rows ∧ ROk 8 rows ∧ Tq H t (sV l) ∧ l.length ≤ 6000 ∧ Tq H e (lvs hole) ∧ ∀ H', Same H H' → Q (ansF (fault rows hole l)) H'
/-- a check of a row -/
def spChk (C : Addr) (A : XA) (hole : Bool) : Sp := fun vs H Q E => ∃ (b t : Addr) (rows : List Row) (l : List Str), vs = [.ref b, .ref t] ∧ BedAt C H b rows ∧ ROk 8 rows ∧ Tq H t (sV l) ∧ l.length ≤ 6000 ∧ Way A E H (due rows hole l) (∀ H', Same H H' → Q .non H')
abbrev N_check_size : List Str := ["entries"]
theorem sc_check_size : FnScope N_check_size ["entries"] (defScope s_check_size) := ⟨rfl, rfl, rfl, by decide +kernel, rfl, by decide +kernel, by decide +kernel⟩
abbrev N_fault_place : List Str := ["bed", "entries", "leaves", "missing", "place", "entry"]
theorem sc_fault_place : FnScope N_fault_place ["bed", "entries", "leaves"] (defScope s_fault_place) := ⟨rfl, rfl, rfl, by decide +kernel, rfl, by decide +kernel, by decide +kernel⟩
abbrev N_check_plant : List Str := ["bed", "plant", "place"]
theorem sc_check_plant : FnScope N_check_plant ["bed", "plant"] (defScope s_check_plant) := ⟨rfl, rfl, rfl, by decide +kernel, rfl, by decide +kernel, by decide +kernel⟩
section
variable {P : Program} {w : World} {K : PySem.W.Frag} {mg : Str → Option Value} {base : Heap} {C : Addr} {A : XA}
theorem ok_check_size (T : Bk mg) (x : XS P w K mg A) (D : Def0 K mg "check_size" s_check_size) : DefOk P w K mg base (L2.CX P w) 2 "check_size" (spSize K A.T) := by
  have x_TooMany := x.xT
  refine D.okX sc_check_size (fun vs H Q E h => ?_) (fun _ _ _ _ _ _ us hl => match us, hl with | [_], _ => rfl) (fun f cdv A outer s H vs Q E hr h => ?_)
  · obtain ⟨t, xs, rfl, _⟩ := h
    rfl
  · obtain ⟨t, xs, rfl, ht, k1, k2⟩ := h
    refine ⟨_, (pss_one (ps_if (pt_cmpR op_gt (pe_callB call_len_seq (by rfl) T.b_len boot_len (pa_cons (pv 0) pa_nil)) (pe_cI (by rfl) T.c_MOST_KNOTS) (nomark _))
        (pss_one (ps_raiseSup rfl x_TooMany hr (takes_of rfl rfl rfl rfl) (pa_cons pe_str (pa_cons (pe_cI (by rfl) T.c_MOST_KNOTS) pa_nil))))
        pss_nil)), ?_⟩
    refine ⟨_, rfl, t, _, rfl, ht, _, _, rfl, rfl, _, rfl, ?_⟩
    refine ite2 (fun h => ?_) (fun h => ?_)
    · exact ⟨rfl, rfl, fun d hd => k2 (by have := of_decide_eq_true h; omega) d hd⟩
    · exact k1 (by have : ¬ (2000 : Int) < ((xs.length : Nat) : Int) := fun q => h (decide_eq_true q); omega)
theorem ok_fault_place (T : Bk mg) (B : BedT K C) (D : Def0 K mg "fault_place" s_fault_place) : DefOk P w K mg base CX0 1 "fault_place" (spFault C) := by
  refine D.ok sc_fault_place (fun vs H Q E h => ?_) (fun _ _ _ _ _ _ us hl => match us, hl with | [_, _, _], _ => rfl) (fun f cdv A outer s H vs Q E hr h => ?_)
  · obtain ⟨b, t, e, rows, l, hole, rfl, _⟩ := h
    rfl
  · obtain ⟨b, t, lv, rows, l, hole, rfl, hB, R, ht, hsz, he, k⟩ := h
    have hu := hu_of hr
    refine ⟨_, (pss_cons (ps_set (i := 3) sc_fault_place.nd rfl (Or.inl rfl) pe_int)
      (pss_cons (ps_for PassesOwn.never rfl (pi_enumT (by rfl) T.b_enumerate (pa_cons (pv 1) pa_nil)) (pg_tup (by rfl) (pgs_cons (pg_name (i := 4) sc_fault_place.nd rfl (Or.inl rfl)) (pgs_cons (pg_name (i := 5) sc_fault_place.nd rfl (Or.inl rfl)) pgs_nil)))
        (pss_cons (ps_if (pt_cmpR op_eq (pv 3) pe_int (nomark _))
          (pss_one (ps_ret (pv 4)))
          pss_nil)
        (pss_one (ps_if (pt_cmpR op_in_seq (pv 5) (pv 2) (by rfl))
          (pss_one (ps_set (i := 3) sc_fault_place.nd rfl (Or.inl rfl) (pe_op op_sub (pv 3) pe_int)))
          (pss_one (ps_if (pt_cmp (pc_din hu (pv 5) (pe_fld (pv 0) rfl)))
            (pss_one (ps_set (i := 3) sc_fault_place.nd rfl (Or.inl rfl) (pe_op op_add (pe_op op_sub (pv 3) pe_int) (pe_dget hu (pe_fld (pv 0) rfl) (pv 5) (fun _ _ => rfl)))))
            (pss_one (ps_ret (pv 4)))))))))
      (pss_one (ps_ret (pe_ifExp (pt_cmpR op_eq (pv 3) pe_int (nomark _)) pe_non (pe_callB call_len_seq (by rfl) T.b_len boot_len (pa_cons (pv 1) pa_nil))))))), ?_⟩
    refine ⟨_, rfl, t, _, rfl, ht.sq, for_it (walk_enumT (xs := sV l)) (fun i σ H' => ∃ (x y : Option V) (n : Nat), σ = [some (.ref b), some (.ref t), some (.ref lv), some (.int (n : Nat)), x, y] ∧ Same H H' ∧ fl (wO rows hole) (l.drop i) n i = fault rows hole l)
      ⟨none, none, 1, rfl, Same.refl H, rfl⟩ (fun i σ H' _ ⟨_, _, _, _, q, _⟩ => (ht.same q).sq) ?_ ?_⟩
    · rintro i v σ H1 H2 hi ⟨x, y, n, rfl, s1, hf⟩ ⟨P1, v1, v2, rfl, hP1, rfl, e1, e2⟩
      have hil : i < l.length := by unfold sV at hi; rw [List.length_map] at hi; exact hi
      cases e1
      have e2' : (l.map V.str)[i]? = some v2 := e2
      rw [List.getElem?_map, List.getElem?_eq_getElem hil] at e2'
      cases e2'
      have s2 := s1.upd_new (o := .tup [.int ((i : Nat) : Int), .str l[i]]) hP1
      rw [List.drop_eq_getElem_cons hil] at hf
      obtain ⟨dx, r, kk, ww, rk, ts, h1, h2, h3, h4, h5, h6⟩ := hB.same s2
      refine ⟨P1, _, rfl, SqT.of upd_same, rfl, _, _, rfl, _, _, rfl, rfl, ?_⟩
      refine ⟨_, rfl, rfl, _, rfl, ite2 (fun e => ?_) (fun e => ?_)⟩
      · have z := V.int.inj (of_decide_eq_true e)
        have z2 : n = 0 := by omega
        subst z2
        have q : some i = fault rows hole l := hf
        have k2 := k _ s2
        rw [← q] at k2
        exact ⟨_, rfl, k2⟩
      · obtain ⟨m, rfl⟩ : ∃ m, n = m + 1 := ⟨n - 1, by
          have : n ≠ 0 := fun q => e (by rw [q]; exact decide_eq_true rfl)
          omega⟩
        have hf2 : (match wO rows hole l[i] with | none => some i | some k => fl (wO rows hole) (l.drop (i + 1)) (m + k) (i + 1)) = fault rows hole l := hf
        have ein : inV (.str l[i]) (lvs hole) = decide (hole = true ∧ l[i] = "*") := by
          cases hole
          · simp [lvs]
            rfl
          · show inV (.str l[i]) ([("*" : Str)].map V.str) = _
            rw [inV_str]
            simp
        refine ⟨_, rfl, _, rfl, lv, _, rfl, .inr ((he.same s2).sq), rfl, (by cases hole <;> rfl), _, rfl, ?_⟩
        rw [ein]
        refine ite2 (fun c => ?_) (fun c => ?_)
        · have c2 := of_decide_eq_true c
          unfold wO at hf2
          rw [if_pos c2] at hf2
          refine ⟨_, rfl, _, _, rfl, rfl, some (.int ((i : Nat) : Int)), some (.str l[i]), m, ?_, s2, hf2⟩
          rw [show ((m : Nat) : Int) = ((m + 1 : Nat) : Int) - 1 by omega]
          rfl
        · have c2 : ¬ (hole = true ∧ l[i] = "*") := fun q => c (decide_eq_true q)
          refine ⟨_, rfl, _, rfl, b, C, dx, _, _, rfl, h1, B.cl, B.nW, lk_widths _ _ _ _, ww, _, rfl, DGet.k (k := .inr l[i]) h5, _, rfl, ?_⟩
          rcases nm_case R l[i] with q | q
          · rw [q.2.2.1]
            refine ifn (by decide) ?_
            unfold wO at hf2
            rw [if_neg c2, if_pos (show nmO rows l[i] < 0 by omega)] at hf2
            have k2 := k _ s2
            rw [← hf2] at k2
            exact ⟨_, rfl, k2⟩
          · rw [q.2.2.1]
            refine ifp rfl ?_
            unfold wO at hf2
            rw [if_neg c2, if_neg (show ¬ nmO rows l[i] < 0 by omega)] at hf2
            refine ⟨_, rfl, _, _, rfl, rfl, _, rfl, b, C, dx, _, _, rfl, h1, B.cl, B.nW, lk_widths _ _ _ _, _, rfl, ww, _, rfl, (by rw [← q.2.2.1]; exact DGet.k (k := .inr l[i]) h5), _, _, rfl, rfl, ?_⟩
            refine ⟨some (.int ((i : Nat) : Int)), some (.str l[i]), m + wR rows l[i], ?_, s2, hf2⟩
            rw [show ((m + wR rows l[i] : Nat) : Int) = ((m + 1 : Nat) : Int) - 1 + ((wR rows l[i] : Nat) : Int) by omega]
            rfl
    · rintro σ H1 ⟨x, y, n, rfl, s1, hf⟩
      have el : (sV l).length = l.length := by simp [sV]
      rw [el, List.drop_length] at hf
      have k2 := k _ s1
      cases n with
      | zero =>
        have q : none = fault rows hole l := hf
        rw [← q] at k2
        exact ⟨_, rfl, rfl, _, rfl, ifp (by simp) k2⟩
      | succ m =>
        have q : some l.length = fault rows hole l := hf
        rw [← q] at k2
        refine ⟨_, rfl, rfl, _, rfl, ifn (fun c => ?_) ⟨_, rfl, t, _, rfl, .inr ((ht.same s1).sq), ?_⟩⟩
        · have := V.int.inj (of_decide_eq_true c)
          omega
        · rw [el]
          exact k2
theorem fault_le {rows : List Row} {hole : Bool} {l : List Str} {i : Nat} (h : fault rows hole l = some i) : i ≤ l.length := by
  have := fl_le h
  omega
theorem ok_check_plant (T : Bk mg) (x : XS P w K mg A) (c_check_size : DefOk P w K mg base (L2.CX P w) 2 "check_size" (spSize K A.T)) (c_fault_place : DefOk P w K mg base CX0 1 "fault_place" (spFault C)) (D : Def0 K mg "check_plant" s_check_plant) : DefOk P w K mg base (L2.CX P w) 3 "check_plant" (spChk C A false) := by
  have x_InvalidPlant := x.xP
  refine D.okX sc_check_plant (fun vs H Q E h => ?_) (fun _ _ _ _ _ _ us hl => match us, hl with | [_, _], _ => rfl) (fun f cdv A outer s H vs Q E hr h => ?_)
  · obtain ⟨b, t, rows, l, rfl, _⟩ := h
    rfl
  · obtain ⟨b, t, rows, l, rfl, hB, R, ht, hsz, k⟩ := h
    refine ⟨_, (pss_cons (ps_expr (pe_d c_check_size (hr.mono (by decide)) (passes_call (takes_of rfl rfl rfl rfl) fun _ _ _ _ h => h) (pa_cons (pv 1) pa_nil)))
      (pss_cons (ps_set (i := 2) sc_check_plant.nd rfl (Or.inl rfl) (pe_d c_fault_place (hr.mono (by decide)) pass0 (pa_cons (pv 0) (pa_cons (pv 1) (pa_cons (pe_tup pa_nil) pa_nil)))))
      (pss_one (ps_if (pt_cmpR op_notN (pv 2) pe_non (nomark _))
        (pss_one (ps_raiseSup rfl x_InvalidPlant hr (takes_of rfl rfl rfl rfl) (pa_cons (pv 2) pa_nil)))
        pss_nil)))), ?_⟩
    have el : (sV l).length = l.length := by simp [sV]
    refine ⟨_, rfl, t, _, rfl, .inr ht.sq, fun hle => ?_, fun hgt d hd => ?_⟩
    · rw [el] at hle
      unfold due at k
      rw [if_neg (by omega)] at k
      refine ⟨_, rfl, _, rfl, Nat.zero_le _, fun e he => ?_⟩
      have s1 := (Same.refl H).upd_new (o := .tup []) he
      refine ⟨b, t, e, rows, l, false, rfl, hB.same s1, R, (ht.same s1), hsz, .of upd_same, fun H' s2 => ?_⟩
      have s3 := s1.trans s2
      cases hf : fault rows false l with
      | none =>
        rw [hf] at k
        exact ⟨_, rfl, rfl, _, rfl, ifn (by simp [ansF]) (k _ s3)⟩
      | some i =>
        rw [hf] at k
        refine ⟨_, rfl, rfl, _, rfl, ifp (by simp [ansF]) ⟨_, rfl, ⟨i, rfl, by have := fault_le hf; omega⟩, rfl, fun d hd => k _ d s3 hd⟩⟩
    · rw [el] at hgt
      unfold due at k
      rw [if_pos hgt] at k
      exact k _ d (Same.refl H) hd
end
end Sh
end
section
set_option Elab.async false
set_option linter.all false
set_option maxRecDepth 100000
set_option maxHeartbeats 2000000
set_option autoImplicit false
namespace Mth
/-- the starts of the first n branches above p -/
def starts {α : Type} (w : α → Nat) (l : List α) (p n : Nat) : List Int := (List.range n).map fun j => ((nxs w l (p + 1) j : Nat) : Int)
end Mth
namespace Sh
open PySem PySem.Spec PyProof.Rows L2
open C8 (pss_cut tCut)
open Evl (ixN_nat)
structure WfOk (rows : List Row) (l : List Str) : Prop where
  f : Mth.forest (wR rows) l 1 = true
  sz : l.length ≤ 2000
theorem PlantOk.wf {rows : List Row} {l : List Str} (x : PlantOk rows l) : WfOk rows l := ⟨x.f, x.sz⟩
theorem StumpOk.wf {rows : List Row} {l : List Str} (x : StumpOk rows l) : WfOk rows l := ⟨x.f, x.sz⟩
theorem row_at {rows : List Row} {m : Int} (R : ROk m rows) {i : Nat} (h : i < rows.length) : ((wR rows (rows[i]).1 : Nat) : Int) = (rows[i]).2 := by
  obtain ⟨q, hq, e, hf, ew, _⟩ := wR_mem R ⟨rows[i], List.getElem_mem h, rfl⟩
  obtain ⟨j, hj, ej⟩ := List.mem_iff_getElem.mp hq
  have h1 : (rows.map (·.1))[j]'(by rw [List.length_map]; exact hj) = (rows.map (·.1))[i]'(by rw [List.length_map]; exact h) := by
    rw [List.getElem_map, List.getElem_map, ej, e]
  have e2 := (List.getElem_inj R.nd).mp h1
  subst e2
  rw [ew, ← ej]
/-- tuples of what f says -/
def TsAt {α : Type} (f : α → List V) (H : Hp) (ts : List Addr) (xs : List α) : Prop := ts.length = xs.length ∧ ∀ (i : Nat) (t : Addr) (x : α), ts[i]? = some t → xs[i]? = some x → Tq H t (f x)
theorem TsAt.keep {α : Type} {f : α → List V} {H H' : Hp} {ts : List Addr} {xs : List α} (x : TsAt f H ts xs) (k : TQ H H') : TsAt f H' ts xs := ⟨x.1, fun i t q a b => k _ _ (x.2 i t q a b)⟩
theorem TsAt.nil {α : Type} {f : α → List V} {H : Hp} : TsAt f H [] [] := ⟨rfl, fun i t x a => by simp at a⟩
theorem TsAt.snoc {α : Type} {f : α → List V} {H : Hp} {ts : List Addr} {xs : List α} {t : Addr} {q : α} (x : TsAt f H ts xs) (h : Tq H t (f q)) : TsAt f H (ts ++ [t]) (xs ++ [q]) := by
  refine ⟨by rw [List.length_append, List.length_append, x.1]; rfl, fun i u y a b => ?_⟩
  by_cases e : i < ts.length
  · rw [List.getElem?_append_left e] at a
    rw [List.getElem?_append_left (by rw [← x.1]; exact e)] at b
    exact x.2 i u y a b
  · rw [List.getElem?_append_right (by omega)] at a
    rw [List.getElem?_append_right (by rw [← x.1]; omega), ← x.1] at b
    have z : i - ts.length = 0 := by
      have := lt_of_get a
      simp at this
      omega
    rw [z] at a b
    cases a
    cases b
    exact h
theorem TsAt.at {α : Type} {f : α → List V} {H : Hp} {ts : List Addr} {xs : List α} (x : TsAt f H ts xs) {i : Nat} (h : i < xs.length) : ∃ t, ts[i]? = some t ∧ (ts.map V.ref)[i]? = some (.ref t) ∧ Tq H t (f xs[i]) := by
  have h2 : i < ts.length := by rw [x.1]; exact h
  exact ⟨ts[i], List.getElem?_eq_getElem h2, by rw [List.getElem?_map, List.getElem?_eq_getElem h2]; rfl, x.2 i _ _ (List.getElem?_eq_getElem h2) (List.getElem?_eq_getElem h)⟩
section
variable {P : Program} {w : World} {K : PySem.W.Frag} {mg : Str → Option Value} {base : Heap} {C CT : Addr}
end
end Sh
end
section
set_option Elab.async false
set_option linter.all false
set_option maxRecDepth 100000
set_option maxHeartbeats 2000000
set_option autoImplicit false
namespace Mth
def tall {α : Type} (w : α → Nat) (l : List α) : Nat → Nat
  | 0 => 0
  | i + 1 => max (tall w l i) ((pth w l i).length + 1)
def wd {α : Type} (w : α → Nat) (l : List α) (p : Nat) : Nat := match l[p]? with
  | some k => w k
  | none => 0
end Mth
namespace Sh
open PySem PySem.Spec PyProof.Rows L2
open C8 (pss_cut tCut)
open Evl (ixN_nat)
/-- the ranks of a plant's knots -/
def RanksOf (ns : List Str) (l : List Str) (ks : List Int) : Prop := ks.length = l.length ∧ ∀ (i : Nat) (z : Str), l[i]? = some z → ∃ j : Nat, ns[j]? = some z ∧ ks[i]? = some ((j : Nat) : Int)
theorem RanksOf.snoc {ns l : List Str} {ks : List Int} {i j : Nat} {z : Str} (x : RanksOf ns (l.take i) ks) (h : l[i]? = some z) (hj : ns[j]? = some z) : RanksOf ns (l.take (i + 1)) (ks ++ [((j : Nat) : Int)]) := by
  have hi := lt_of_get h
  have hk : ks.length = i := by rw [x.1, List.length_take]; omega
  refine ⟨by rw [List.length_append, hk, List.length_take]; simp; omega, fun k u hu => ?_⟩
  rw [← take_snoc h] at hu
  by_cases e : k < i
  · rw [List.getElem?_append_left (by rw [List.length_take]; omega)] at hu
    obtain ⟨j', a, b⟩ := x.2 k u hu
    exact ⟨j', a, by rw [List.getElem?_append_left (by omega)]; exact b⟩
  · have hlt := lt_of_get hu
    rw [List.length_append, List.length_take] at hlt
    have ek : k = i := by simp at hlt; omega
    subst ek
    rw [List.getElem?_append_right (by rw [List.length_take]; omega), List.length_take] at hu
    rw [show k - min k l.length = 0 by omega] at hu
    cases hu
    exact ⟨j, hj, by rw [List.getElem?_append_right (by omega), hk, Nat.sub_self]; rfl⟩
theorem Way.same {A : XA} {E : XK} {H H1 : Hp} {p q : Prop} (s : Same H H1) (h : p → q) : ∀ {o : Option Ex}, Way A E H o p → Way A E H1 o q
  | none, k => h k
  | some _, k => Rz.same k s
section
variable {P : Program} {w : World} {K : PySem.W.Frag} {mg : Str → Option Value} {base : Heap} {C CT : Addr} {A : XA}
end
end Sh
end
section
set_option Elab.async false
set_option linter.all false
set_option maxRecDepth 100000
set_option maxHeartbeats 2000000
set_option autoImplicit false
namespace Mth
end Mth
namespace Sh
open PySem PySem.Spec PyProof.Rows L2
open C8 (pss_cut tCut)
open Evl (ixN_nat)
theorem Def0.star {P : Program} {w : World} {K : PySem.W.Frag} {mg : Str → Option Value} {base : Heap} {k : Nat} {x : Str} {sp : Sp} {st : Stmt} {N ps : List Str} {pv : Str} (D : Def0 K mg x st) (S : FnScope N (ps ++ [pv]) (defScope st))
    (hb : ∀ (kV doc pm : Value) (an : Option Addr) (cdv ct : Value) (us rest : List Value), us.length = ps.length → bindArgs (PySem.W.fnOf x x (defArgs st) (defBody st) (defScope st) .none kV doc pm an cdv ct) ⟨us ++ rest, []⟩ = (newTuple rest >>= fun t => pure (ps.zip us ++ [(pv, t)])))
    (hbody : ∀ (f : Addr) (cdv : Value) (A : Around) (outer : List Env) (s : Shared) (H : Hp) (vs : List V) (Q : VK) (E : XK), Room k (A.deeper (envOfC x (defScope st) s.heap.objs.size f cdv)) → sp vs H Q E →
      ∃ t, PSs (cxOf (L2.CX P w) P w K mg base N x (defScope st) f cdv A outer s H E) (defBody st) t ∧ t { nx := fun _ H' => Q .non H', rt := Q } (start N vs) H) :
    DefOk P w K mg base (L2.CX P w) (k + 1) x (fun vs H Q E => ∃ ws rest, vs = ws ++ rest ∧ ws.length = ps.length ∧ rest.length ≤ sizeLine ∧ ∀ p, H p = Option.none → sp (ws ++ [V.ref p]) (upd H p (.tup rest)) Q E) := by
  obtain ⟨f, fd, hm, F⟩ := D
  obtain ⟨oc, od, dV, kV, doc, pm, an, cdv, ct, osl, rfl, lk, hcd, hdv, _⟩ := F.ex
  have hd : dV = .none := by
    rcases hdv with ⟨_, h⟩ | h
    · exact h
    · exact absurd rfl h.1
  subst hd
  exact ⟨f, hm, F.kp, StX.fn_star lk hcd S StX.cxUp (hb kV doc pm an cdv ct) fun A outer s H vs Q E hr hsp => hbody f cdv A outer s H vs Q E hr hsp⟩
theorem lk_branches (r k w rk : Addr) : (bedF r k w rk).lookup ("branches" : Str) = none := by
  have h : (("branches" : Str) == "rows") = false := by decide +kernel
  have h2 : (("branches" : Str) == "kinds") = false := by decide +kernel
  have h3 : (("branches" : Str) == "widths") = false := by decide +kernel
  have h4 : (("branches" : Str) == "ranks") = false := by decide +kernel
  simp [bedF, List.lookup, h, h2, h3, h4]
def iV (zs : List Int) : List V := zs.map V.int
def put (w : Str → Nat) (l : List Str) (q : Nat) (o : List Str) : List Str := l.take q ++ o ++ l.drop (Mth.nxs w l q 1)
def spBr (C : Addr) (A : XA) : Sp := fun vs H Q E => ∃ (b : Addr) (z : Str) (rows : List Row), vs = [.ref b, .str z] ∧ BedAt C H b rows ∧ ROk 8 rows ∧ Kin z ∧ (nmO rows z < 0 → Rz A E H (.kind z)) ∧ (0 ≤ nmO rows z → Q (.int ((wR rows z : Nat) : Int)) H)
def BrOk (P : Program) (w : World) (K : PySem.W.Frag) (mg : Str → Option Value) (base : Heap) (C : Addr) (A : XA) : Prop := ∃ f, Meth K C "branches" f ∧ FnR P w K mg base (L2.CX P w) 2 f (spBr C A)
abbrev N_branches : List Str := ["self", "kind"]
theorem sc_branches : FnScope N_branches ["self", "kind"] (defScope s_branches) := ⟨rfl, rfl, rfl, by decide +kernel, rfl, by decide +kernel, by decide +kernel⟩
section
variable {P : Program} {w : World} {K : PySem.W.Frag} {mg : Str → Option Value} {base : Heap} {C CN CT : Addr} {A : XA}
theorem ok_branches (x : XS P w K mg A) (B : BedT K C) {y : Str} {f : Addr} {fd : FuncData} (F : FunD K "branches" "Bed.branches" (defArgs s_branches) (defBody s_branches) (defScope s_branches) [] [] f fd) (M : Meth K C "branches" f) : BrOk P w K mg base C A := by
  have x_UnknownKind := x.xU
  have G : FnOk P w K mg base (L2.CX P w) 2 f fd ["self", "kind"] (spBr C A) := F.ok sc_branches (fun vs H Q E h => by obtain ⟨b, z, rows, rfl, _⟩ := h; rfl) fun cdv A outer s H vs Q E hr h => by
    obtain ⟨b, z, rows, rfl, hB, R, hz, k1, k2⟩ := h
    have hu := hu_of hr
    obtain ⟨dx, r, kk, ww, rk, ts, h1, h2, h3, h4, h5, h6⟩ := hB
    refine ⟨_, (pss_cons (ps_if (pt_cmp (pc_dnotin hu (pv 1) (pe_fld (pv 0) rfl)))
        (pss_one (ps_raiseSup rfl x_UnknownKind hr (takes_of rfl rfl rfl rfl) (pa_cons (pv 1) pa_nil)))
        pss_nil)
      (pss_one (ps_ret (pe_dget hu (pe_fld (pv 0) rfl) (pv 1) (fun _ _ => rfl))))), ?_⟩
    refine ⟨_, rfl, _, rfl, b, C, dx, _, _, rfl, h1, B.cl, B.nW, lk_widths _ _ _ _, ww, _, rfl, DGet.k (k := .inr z) h5, _, rfl, ?_⟩
    rcases nm_case R z with q | q
    · rw [q.2.2.1]
      refine ifp (by simp) ?_
      exact ⟨_, rfl, ⟨z, rfl, hz⟩, rfl, fun d hd => k1 (by omega) _ d (Same.refl H) hd⟩
    · rw [q.2.2.1]
      refine ifn (by simp) ?_
      exact ⟨_, rfl, b, C, dx, _, _, rfl, h1, B.cl, B.nW, lk_widths _ _ _ _, _, rfl, ww, _, rfl, (by rw [← q.2.2.1]; exact DGet.k (k := .inr z) h5), k2 (by omega)⟩
  refine ⟨f, M, fun A' outer s H us vs Q E hr e0 r hs => G.raw (F.bindsN fun _ _ _ _ _ _ us hl => match us, hl with | [_, _], _ => rfl) .nil A' outer s H us vs Q E hr e0 r (by show spBr C A (vs ++ []) H Q E; rw [List.append_nil]; exact hs)⟩
end
end Sh
end
section
set_option Elab.async false
set_option linter.all false
set_option maxRecDepth 100000
set_option maxHeartbeats 2000000
namespace PySem
open Sem (wp)
section
variable {prog : Program} {w : World} {K : Type} [DecidableEq K] (knd : KeyKind prog w K)
def IsNestKey (h : Heap) (k : K × List K) (a : Addr) : Prop := ∃ o x b n, h.get? a = some o ∧ o.cls = .type "tuple" ∧ o.data = .seq #[x, .ref b] n ∧ knd.is k.1 x = true ∧ IsTupleKey knd h k.2 b
def nestHash (k : K × List K) : Int := reduceHash (Builtin.Tuple.tupleHashOf [knd.hash k.1, tupleKeyHash knd k.2])
variable {knd}
theorem IsNestKey.typeIs {s : Shared} {k : K × List K} {a : Addr} (x : IsNestKey knd s.heap k a) : s.TypeIs (.ref a) "tuple" := let ⟨o, _, _, _, ho, hc, _⟩ := x; ⟨o, ho, hc⟩
theorem IsNestKey.inj {h : Heap} {a : Addr} {k l : K × List K} (hx : IsNestKey knd h k a) (hy : IsNestKey knd h l a) : k = l := by
  obtain ⟨o, x, b, n, ho, _, hd, hi, ht⟩ := hx
  obtain ⟨o', x', b', n', ho', _, hd', hi', ht'⟩ := hy
  obtain rfl : o = o' := Option.some.inj (ho.symm.trans ho')
  rw [hd] at hd'
  injection hd' with h1 _
  have h1 : [x, Value.ref b] = [x', .ref b'] := congrArg Array.toList h1
  injection h1 with e1 e2
  injection e2 with e3 _
  injection e3 with e4
  subst e1 e4
  exact Prod.ext (knd.inj _ _ _ hi hi') (ht.inj ht')
theorem IsNestKey.keeps {h h' : Heap} {k : K × List K} {a d : Addr} {o : Obj} {es ep} (x : IsNestKey knd h k a) (ho : h.get? d = some o) (hd : o.data = .dict es ep) (hs : Heap.SameBut d h h') : IsNestKey knd h' k a := by
  obtain ⟨o', x, b, n, ho', hc, hd', hi, ht⟩ := x
  have hne : a ≠ d := by
    rintro rfl
    obtain rfl : o' = o := Option.some.inj (ho'.symm.trans ho)
    rw [hd] at hd'
    exact nomatch hd'
  exact ⟨o', x, b, n, (hs.2 a hne).trans ho', hc, hd', hi, ht.keeps ho hd hs⟩
variable {A : Around} {E : Value → Shared → Prop} {s : Shared}
theorem pyHash_nest {k : K × List K} {a : Addr} {Q : Int → Shared → Prop} (hu : A.units + 1 < cLine) (hk : IsNestKey knd s.heap k a) (h : Q (nestHash knd k) { s with toks := s.toks + (k.2.length + 3) }) :
    wpAny (model prog w) A (pyHash (.ref a)) Q E s := by
  have hT := hk.typeIs
  obtain ⟨o, x, b, n, ho, _, hd, hi, ht⟩ := hk
  unfold pyHash
  first | unfold pyHashByItsType | skip
  first | refine wpAny_bind (wpAny_cRoomFor_or (.inr (by omega)) ?_) | skip
  refine wpAny_bind (wpAny_specialOf hT F.slot_tuple_hash.lookup ?_)
  show wpAny _ _ (if (some (Value.builtin "tuple.__hash__") == some Value.none) = true then _ else _) Q E s
  rw [if_neg (by rw [beq_builtin_none]; exact Bool.false_ne_true)]
  refine wpAny_bind (wpAny_specialOf hT F.slot_tuple_hash.lookup ?_)
  show wpAny _ _ (callSpecialIfBoundUnlessNone? (.ref a) "__hash__" _ >>= _) Q E s
  refine wpAny_bind (wpAny_callSpecialIfBoundUnlessNone?_slot hT F.slot_tuple_hash (wpAny_call_entry F.slot_tuple_hash hT F.entry_tuple_hash ?_ (F.args_tuple_hash_1 _)))
  show wpAny _ _ (Builtin.Tuple.tupleItemsOf (.ref a) >>= _) _ _ s
  refine wpAny_bind (wpAny_tupleItemsOf ho hd ?_)
  refine wpAny_bind ?_
  rw [← Array.forIn_toList]
  refine wpAny_forIn_list _
    (fun rest (c : Array Int) s' => (rest = [x, .ref b] ∧ c.toList = [] ∧ s' = s) ∨ (rest = [.ref b] ∧ c.toList = [knd.hash k.1] ∧ s' = { s with toks := s.toks + 1 }) ∨ (rest = [] ∧ c.toList = [knd.hash k.1, tupleKeyHash knd k.2] ∧ s' = { s with toks := s.toks + 1 + (k.2.length + 1) }))
    _ ?_ ?_ _ _ (.inl ⟨rfl, rfl, rfl⟩)
  · rintro y rest c s' (⟨er, hb, rfl⟩ | ⟨er, hb, rfl⟩ | ⟨er, _⟩)
    · injection er with e1 e2
      subst e1 e2
      refine wpAny_bind (knd.pyHash hi ?_)
      first
        | exact wpAny_pure (.inr (.inl ⟨rfl, by simp [hb], rfl⟩))
        | exact wpAny_bind (wpAny_pure (wpAny_pure (.inr (.inl ⟨rfl, by simp [hb], rfl⟩))))
    · injection er with e1 e2
      subst e1 e2
      refine wpAny_bind (wpAny_pyHash_tuple (knd := knd) (ks := k.2) (s := { s with toks := s.toks + 1 }) (by show A.units + 1 < cLine; exact hu) ht ?_)
      first
        | exact wpAny_pure (.inr (.inr ⟨rfl, by simp [hb], rfl⟩))
        | exact wpAny_bind (wpAny_pure (wpAny_pure (.inr (.inr ⟨rfl, by simp [hb], rfl⟩))))
    · exact nomatch er
  · rintro c s' (⟨er, _⟩ | ⟨er, _⟩ | ⟨_, hb, rfl⟩)
    · exact nomatch er
    · exact nomatch er
    show wpAny _ _ (retInt (Builtin.Tuple.tupleHashOf c.toList)) _ _ _
    rw [hb]
    refine wpAny_ret_mkInt ?_
    show wpAny _ _ (if (decide (-(2 : Int) ^ 63 ≤ Builtin.Tuple.tupleHashOf [knd.hash k.1, tupleKeyHash knd k.2]) && decide (Builtin.Tuple.tupleHashOf [knd.hash k.1, tupleKeyHash knd k.2] < 2 ^ 63)) = true then _ else _) Q E _
    unfold nestHash reduceHash at h
    have ek : s.toks + 1 + (k.2.length + 1) + 1 = s.toks + (k.2.length + 3) := by omega
    by_cases hr : (decide (-(2 : Int) ^ 63 ≤ Builtin.Tuple.tupleHashOf [knd.hash k.1, tupleKeyHash knd k.2]) && decide (Builtin.Tuple.tupleHashOf [knd.hash k.1, tupleKeyHash knd k.2] < 2 ^ 63)) = true
    · rw [if_pos hr]
      rw [if_pos hr] at h
      exact wpAny_pure (by rw [← ek] at h; exact h)
    · rw [if_neg hr]
      rw [if_neg hr] at h
      exact wpAny_bind (wpAny_rule (wpAny_pure (by rw [← ek] at h; exact h)))
theorem nest_eq_tree {k l : K × List K} {a c : Addr} {P : Fin → Shared → Prop} (hu : A.units < cLine) (hx : IsNestKey knd s.heap k a) (hy : IsNestKey knd s.heap l c) (h : P (.done (.ret (.bool (decide (k = l))))) s) :
    wpAny (model prog w) A (Builtin.«tuple.__eq__» ⟨[.ref a, .ref c], []⟩) P E s := by
  have hTb := hy.typeIs
  obtain ⟨oa, x, b, na, hoa, _, hda, hia, hta⟩ := hx
  obtain ⟨ob, y, d, nb, hob, _, hdb, hib, htb⟩ := hy
  have ed : decide (k = l) = (decide (k.1 = l.1) && decide (k.2 = l.2)) := by
    obtain ⟨k1, k2⟩ := k
    obtain ⟨l1, l2⟩ := l
    by_cases h1 : k1 = l1 <;> by_cases h2 : k2 = l2 <;> simp [h1, h2]
  rw [ed] at h
  show wpAny _ _ (isInstance (.ref c) (.type "tuple") >>= _) _ _ s
  refine wpAny_bind (wpAny_isInstance hTb isSubtype_tuple_tuple ?_)
  simp only [Bool.not_true, Bool.false_eq_true, if_false]
  refine wpAny_bind (wpAny_tupleItemsOf hoa hda ?_)
  refine wpAny_bind (wpAny_tupleItemsOf hob hdb ?_)
  refine wpAny_bind ?_
  refine wpAny_forIn_list _
    (fun rest r s' => r.1 = none ∧ s' = s ∧ (rest = [(x, y), (Value.ref b, .ref d)] ∨ (rest = [(Value.ref b, .ref d)] ∧ decide (k.1 = l.1) = true) ∨ (rest = [] ∧ decide (k.1 = l.1) = true ∧ decide (k.2 = l.2) = true)))
    _ ?_ ?_ _ _ ⟨rfl, rfl, .inl rfl⟩
  · rintro ⟨u, v⟩ rest r s' ⟨hr, rfl, er | ⟨er, e1⟩ | ⟨er, _⟩⟩
    · injection er with q1 q2
      injection q1 with q3 q4
      subst q2 q3 q4
      refine wpAny_bind (knd.eqBool (a := k.1) (b := l.1) hia hib ?_)
      by_cases hk : k.1 = l.1
      · rw [decide_eq_true hk]
        simp only [Bool.not_true, Bool.false_eq_true, if_false]
        exact wpAny_pure ⟨by first | trivial | rfl, by first | trivial | rfl, .inr (.inl ⟨by first | trivial | rfl, by first | trivial | exact decide_eq_true hk⟩)⟩
      · rw [decide_eq_false hk]
        simp only [Bool.not_false, if_true]
        rw [decide_eq_false hk] at h
        exact wpAny_bind (wpAny_pure (wpAny_pure (wpAny_pure h)))
    · injection er with q1 q2
      injection q1 with q3 q4
      subst q2 q3 q4
      refine wpAny_bind (wpAny_eqBool_tuple (knd := knd) (x := k.2) (y := l.2) (by show A.units < cLine; exact hu) hta htb ?_)
      by_cases hk : k.2 = l.2
      · rw [decide_eq_true hk]
        simp only [Bool.not_true, Bool.false_eq_true, if_false]
        exact wpAny_pure ⟨by first | trivial | rfl, by first | trivial | rfl, .inr (.inr ⟨by first | trivial | rfl, by first | exact e1 | trivial, by first | trivial | exact decide_eq_true hk⟩)⟩
      · rw [decide_eq_false hk]
        simp only [Bool.not_false, if_true]
        rw [decide_eq_false hk, e1] at h
        exact wpAny_bind (wpAny_pure (wpAny_pure (wpAny_pure h)))
    · exact nomatch er
  · rintro ⟨r1, r2⟩ s' ⟨hr, rfl, er | ⟨er, _⟩ | ⟨_, e1, e2⟩⟩
    · exact nomatch er
    · exact nomatch er
    simp only at hr
    subst hr
    refine wpAny_pure ?_
    rw [e1, e2] at h
    exact h
theorem eqBool_nest {k l : K × List K} {a c : Addr} {Q : Bool → Shared → Prop} (hu : A.units + 1 < cLine) (hx : IsNestKey knd s.heap k a) (hy : IsNestKey knd s.heap l c) (h : Q (decide (k = l)) s) :
    wpAny (model prog w) A (eqBool (.ref a) (.ref c)) Q E s := by
  unfold eqBool
  try with_reducible refine wpAny_holding ?_
  show wpAny _ _ (if (Value.ref a == Value.ref c) = true then _ else _) Q E s
  by_cases hab : (Value.ref a == Value.ref c) = true
  · rw [if_pos hab]
    have e : a = c := by have := eq_of_beq hab; injection this
    subst e
    obtain rfl := hx.inj hy
    exact wpAny_bind (wpAny_rule (wpAny_pure (by simpa using h)))
  · rw [if_neg hab]
    exact wpAny_bind (wpAny_richCompare_same_room (op := .Eq) hx.typeIs hy.typeIs F.slot_tuple_eq
      (wpAny_call_entry F.slot_tuple_eq hx.typeIs F.entry_tuple_eq (nest_eq_tree (by show A.units + 1 < cLine; exact hu) hx hy ⟨_, rfl, (fun e => nomatch e), wpAny_truthy_bool h⟩) (F.args_tuple_eq_2 _ _)) (by omega))
theorem quiet_tup {ks : List K} {a : Addr} {n : Nat} {Q : Bool → Shared → Prop} (hk : IsTupleKey knd s.heap ks a) (h : Q true s) : wpAny (model prog w) A (eqIsQuiet (n + 1) (.ref a)) Q E s := by
  have hT := hk.typeIs
  obtain ⟨o, items, n, ho, _, hd, hi⟩ := hk
  unfold eqIsQuiet
  refine wpAny_bind (wpAny_specialOf hT F.slot_tuple_eq.lookup ?_)
  show wpAny _ _ (isInstance (.ref a) (.type "tuple") >>= _) _ _ s
  refine wpAny_bind (wpAny_isInstance hT isSubtype_tuple_tuple ?_)
  simp only [Bool.not_true, Bool.false_eq_true, if_false]
  refine wpAny_bind (wpAny_seqItems ho hd ?_)
  refine wpAny_bind ?_
  show wpAny _ _ (forIn items _ _) _ _ s
  rw [← Array.forIn_toList]
  refine wpAny_forIn_list _ (fun rest r s' => r.1 = none ∧ s' = s ∧ ∀ v ∈ rest, carriedByValue v = true) _ ?_ ?_ _ _ ⟨rfl, rfl, hi.byValue⟩
  · rintro v rest r s' ⟨hr, rfl, hall⟩
    rw [eqIsQuiet_byValue _ (hall v List.mem_cons_self)]
    refine wpAny_bind (wpAny_pure ?_)
    simp only [Bool.not_true, Bool.false_eq_true, if_false]
    exact wpAny_pure ⟨rfl, rfl, fun u hu' => hall u (List.mem_cons_of_mem _ hu')⟩
  · rintro ⟨r1, r2⟩ s' ⟨hr, rfl, _⟩
    simp only at hr
    subst hr
    exact wpAny_pure h
theorem quiet_nest {k : K × List K} {a : Addr} {Q : Bool → Shared → Prop} (hk : IsNestKey knd s.heap k a) (h : Q true s) : wpAny (model prog w) A (eqIsQuiet 8 (.ref a)) Q E s := by
  have hT := hk.typeIs
  obtain ⟨o, x, b, n, ho, _, hd, hi, ht⟩ := hk
  unfold eqIsQuiet
  refine wpAny_bind (wpAny_specialOf hT F.slot_tuple_eq.lookup ?_)
  show wpAny _ _ (isInstance (.ref a) (.type "tuple") >>= _) _ _ s
  refine wpAny_bind (wpAny_isInstance hT isSubtype_tuple_tuple ?_)
  simp only [Bool.not_true, Bool.false_eq_true, if_false]
  refine wpAny_bind (wpAny_seqItems ho hd ?_)
  refine wpAny_bind ?_
  show wpAny _ _ (forIn (#[x, Value.ref b] : Array Value) _ _) _ _ s
  rw [← Array.forIn_toList]
  refine wpAny_forIn_list _ (fun rest r s' => r.1 = none ∧ s' = s ∧ ∀ v ∈ rest, v = x ∨ v = .ref b) _ ?_ ?_ _ _ ⟨rfl, rfl, fun v hv => ?_⟩
  · rintro v rest r s' ⟨hr, rfl, hall⟩
    have rest' : ∀ u ∈ rest, u = x ∨ u = .ref b := fun u hu' => hall u (List.mem_cons_of_mem _ hu')
    rcases hall v List.mem_cons_self with rfl | rfl
    · rw [eqIsQuiet_byValue _ (knd.byValue _ _ hi)]
      refine wpAny_bind (wpAny_pure ?_)
      simp only [Bool.not_true, Bool.false_eq_true, if_false]
      exact wpAny_pure ⟨rfl, rfl, rest'⟩
    · refine wpAny_bind (quiet_tup ht ?_)
      simp only [Bool.not_true, Bool.false_eq_true, if_false]
      exact wpAny_pure ⟨rfl, rfl, rest'⟩
  · rintro ⟨r1, r2⟩ s' ⟨hr, rfl, _⟩
    simp only at hr
    subst hr
    exact wpAny_pure h
  · have hv : v ∈ [x, Value.ref b] := hv
    rcases List.mem_cons.mp hv with e | e
    · exact .inl e
    · exact .inr (List.mem_singleton.mp e)
end
def nestKind {prog : Program} {w : World} {K : Type} [DecidableEq K] (knd : KeyKind prog w K) : HeapKind prog w (K × List K) where
  is := IsNestKey knd
  hash := nestHash knd
  draws := fun k => k.2.length + 3
  room := fun A => A.units + 1 < cLine
  inj := fun hx hy => hx.inj hy
  keeps := fun x ho hd hs => x.keeps ho hd hs
  pyHash := fun hu hk h => pyHash_nest hu hk h
  eqBool := fun hu hx hy h => eqBool_nest hu hx hy h
  quiet := fun hk h => quiet_nest hk h
end PySem
end
section
set_option Elab.async false
set_option linter.all false
set_option maxRecDepth 100000
set_option maxHeartbeats 2000000
namespace L2
open PySem PySem.Spec PyProof.Rows
abbrev NKey : Type := Key × List Key
/-- the pair at a -/
def NKAt (H : Hp) (k : NKey) (a : Addr) : Prop := ∃ b, H a = some (.tup [kV k.1, .ref b]) ∧ H b = some (.tup (k.2.map kV))
abbrev NT (H : Hp) : List (NKey × V) → List (NKey × Addr × Value) → Prop := Paired fun p q => p.1 = q.1 ∧ NKAt H p.1 q.2.1 ∧ RelV p.2 q.2.2
/-- the dict's own object -/
def NdO (P : Program) (w : World) (a : Addr) (xs : List (NKey × Addr × Value)) : HO := .ext fun h => ∃ o es ep, h.get? a = some o ∧ o.ExactDict ∧ o.data = .dict es ep ∧ es.toList = xs.map (entryOfKey (nestKind (mixKind P w))) ∧ (xs.map (·.1)).Nodup
/-- the dict at a holds kvs -/
def NdAt (P : Program) (w : World) (H : Hp) (a : Addr) (kvs : List (NKey × V)) : Prop := kvs.length ≤ sizeLine ∧ (a == sysModules) = false ∧ ∃ xs, NT H kvs xs ∧ H a = some (NdO P w a xs)
theorem NKAt.keeps {H H' : Hp} {k : NKey} {a : Addr} (x : NKAt H k a) (ht : ∀ b ys, H b = some (.tup ys) → H' b = some (.tup ys)) : NKAt H' k a := by
  obtain ⟨b, h1, h2⟩ := x
  exact ⟨b, ht _ _ h1, ht _ _ h2⟩
theorem NT.keeps {H H' : Hp} {kvs : List (NKey × V)} {xs : List (NKey × Addr × Value)} (r : NT H kvs xs) (ht : ∀ b ys, H b = some (.tup ys) → H' b = some (.tup ys)) : NT H' kvs xs :=
  Paired.mapP r fun _ _ z => ⟨z.1, z.2.1.keeps ht, z.2.2⟩
theorem NdAt.keeps {P : Program} {w : World} {H H' : Hp} {a : Addr} {kvs : List (NKey × V)} (x : NdAt P w H a kvs) (ht : ∀ b ys, H b = some (.tup ys) → H' b = some (.tup ys)) (ha : H' a = H a) : NdAt P w H' a kvs := by
  obtain ⟨h1, h2, xs, r, h3⟩ := x
  exact ⟨h1, h2, xs, r.keeps ht, by rw [ha]; exact h3⟩
theorem NT.val {H : Hp} {kvs : List (NKey × V)} {xs : List (NKey × Addr × Value)} (r : NT H kvs xs) (k : NKey) : RelO (valV kvs k) ((atKey xs k).map (·.2)) := by
  induction r with
  | nil => exact True.intro
  | @cons p q ps qs h t ih =>
    obtain ⟨h1, _, h2⟩ := h
    by_cases e : p.1 = k
    · have b : atKey (q :: qs) k = some q.2 := by simp [atKey, List.find?_cons, h1.symm.trans e]
      rw [valV_pos e, b]
      exact h2
    · have e' : ¬ q.1 = k := fun z => e (h1.trans z)
      have b : atKey (q :: qs) k = atKey qs k := by simp [atKey, List.find?_cons, e']
      rw [valV_neg e, b]
      exact ih
theorem NT.new {H : Hp} {kvs : List (NKey × V)} {xs : List (NKey × Addr × Value)} (r : NT H kvs xs) {k : NKey} {b : Addr} {y : V} {u : Value} (hk : valV kvs k = none) (hb : NKAt H k b) (ry : RelV y u) : NT H (kvs ++ [(k, y)]) (storedH xs k b u) := by
  have e := (r.val k).isSome_eq
  rw [hk, Option.isSome_map] at e
  have hn : atKey xs k = none := by
    cases h : atKey xs k with
    | none => rfl
    | some p => rw [h] at e; cases e
  rw [storedH_new hn]
  exact Paired.snoc r ⟨rfl, hb, ry⟩
section
variable {P : Program} {w : World} {H : Hp} {h : Heap} {a : Addr}
theorem nkey_of {k : NKey} (ok : HOk P w H h) (e : NKAt H k a) : (nestKind (mixKind P w)).is h k a := by
  obtain ⟨b, h1, h2⟩ := e
  obtain ⟨_, its, r, o, g1, g2, n, g3⟩ := (show ObjOk P w H h a (.tup [kV k.1, .ref b]) from ok a _ h1)
  obtain ⟨u1, u2, rfl, r1, r2⟩ := vals2 r
  obtain rfl : u2 = Value.ref b := r2
  exact ⟨o, u1, b, _, g1, g2, g3, kV_is r1, key_of ok h2⟩
theorem nd_rd {kvs : List (NKey × V)} (ok : HOk P w H h) (e : NdAt P w H a kvs) : kvs.length ≤ sizeLine ∧ (a == sysModules) = false ∧ ∃ xs, NT H kvs xs ∧ H a = some (NdO P w a xs) ∧ h.DictOfH (nestKind (mixKind P w)) a xs := by
  obtain ⟨z, y, xs, r, h3⟩ := e
  obtain ⟨⟨o, es, ep, g1, g2, g3, g4, g5⟩, _⟩ := (show ObjOk P w H h a (NdO P w a xs) from ok a _ h3)
  refine ⟨z, y, xs, r, h3, o, es, ep, g1, g2, g3, g4, fun x hx => ?_, g5⟩
  have all : ∀ {l : List (NKey × V)} {m : List (NKey × Addr × Value)}, NT H l m → ∀ x ∈ m, (nestKind (mixKind P w)).is h x.1 x.2.1 := by
    intro l m q
    induction q with
    | nil => intro x hx; exact nomatch hx
    | @cons p q ps qs hq t ih =>
      intro x hx
      rcases List.mem_cons.mp hx with e | hx
      · subst e
        exact nkey_of ok (by rw [← hq.1]; exact hq.2.1)
      · exact ih x hx
  exact all r x hx
theorem ndO_ok {xs : List (NKey × Addr × Value)} (dd : h.DictOfH (nestKind (mixKind P w)) a xs) : ObjOk P w H h a (NdO P w a xs) := by
  obtain ⟨o, es, ep, g1, g2, g3, g4, _, g5⟩ := dd
  exact ⟨⟨o, es, ep, g1, g2, g3, g4, g5⟩, ⟨o, g1⟩, fun h1 h2 ⟨o', es', ep', q1, q2⟩ k => ⟨o', es', ep', k _ q1, q2⟩⟩
end
section
variable {X : Cx} {pins : List (Addr × Obj)} {σ : St} {H : Hp} {s : Shared} {a b : Addr} {kvs : List (NKey × V)} {k : NKey} {v : V} {r : Value} {A : Around} {E : Value → Shared → Prop}
theorem nest_room (hu : A.units + 2 < cLine) : (nestKind (mixKind X.prog X.w)).room A.in1 := hu
theorem nd_getItem {Q : Value → Shared → Prop} (hu : A.units + 2 < cLine) (I : Inv X pins σ H s) (e : NdAt X.prog X.w H a kvs) (eb : NKAt H k b) (l : valV kvs k = some v) (h : ∀ w' s', Inv X pins σ H s' → RelV v w' → Q w' s') :
    wpAny (model X.prog X.w) A (getItem (.ref a) (.ref b)) Q E s := by
  obtain ⟨z, hd, xs, rel, _, dd⟩ := nd_rd I.hok e
  obtain ⟨w', hw, rw'⟩ := RelO.some_of (v := v) (o := (atKey xs k).map (·.2)) (by rw [← l]; exact rel.val k)
  obtain ⟨p, hp, hp2⟩ := Option.map_eq_some_iff.mp hw
  refine wpAny_getItem_heap (nest_room hu) (nkey_of I.hok eb) dd hp ?_
  rw [hp2]
  exact h w' _ (I.tok _) rw'
/-- d[k] = v, k not yet there -/
theorem nd_setNew {Q : Unit → Shared → Prop} (hu : A.units + 2 < cLine) (I : Inv X pins σ H s) (e : NdAt X.prog X.w H a kvs) (eb : NKAt H k b) (l : valV kvs k = none) (hl : kvs.length < sizeLine) (rv : RelV v r)
    (h : ∀ H' s', (∀ c, c ≠ a → H' c = H c) → NdAt X.prog X.w H' a (kvs ++ [(k, v)]) → Inv X pins σ H' s' → Q () s') : wpAny (model X.prog X.w) A (setItem (.ref a) (.ref b) r) Q E s := by
  obtain ⟨z, hd, xs, rel, ha, dd⟩ := nd_rd I.hok e
  have hz : xs.length ≤ sizeLine := by rw [← Paired.length rel]; exact z
  refine wpAny_setItem_heap (hsz := hz) (nest_room hu) (nkey_of I.hok eb) dd fun h' dd' hs => ?_
  obtain ⟨q, hq⟩ : ∃ q, h'.get? a = some q := let ⟨q, _, _, hq, _⟩ := dd'; ⟨q, hq⟩
  have ot : ∀ c, c ≠ a → upd H a (NdO X.prog X.w a (storedH xs k b r)) c = H c := fun c hc => upd_ne hc
  refine h (upd H a (NdO X.prog X.w a (storedH xs k b r))) _ ot ⟨by rw [List.length_append]; exact hl, hd, _, (rel.new l eb rv).keeps fun c ys ec => ?_, upd_same⟩ (d_write I (by rw [ha]; exact True.intro) hs ⟨q, hq⟩ (ndO_ok dd'))
  rw [upd_ne (fun e => by rw [e, ha] at ec; cases ec)]
  exact ec
end
/-- d[k] -/
def tNGet (P : Program) (w : World) (td ty : TE) : TE := fun σ H Q => td σ H fun x H1 => ty σ H1 fun y H2 => ∃ a b kvs k v, x = .ref a ∧ y = .ref b ∧ NdAt P w H2 a kvs ∧ NKAt H2 k b ∧ valV kvs k = some v ∧ Q v H2
/-- d[k] = v, k new -/
def sNPut (P : Program) (w : World) (td ty tv : TE) : TS := fun D σ H => tv σ H fun v H1 => td σ H1 fun x H2 => ty σ H2 fun y H3 => ∃ a b kvs k, x = .ref a ∧ y = .ref b ∧ NdAt P w H3 a kvs ∧ NKAt H3 k b ∧ valV kvs k = none ∧ kvs.length < sizeLine ∧
  ∀ H', (∀ c, c ≠ a → H' c = H3 c) → NdAt P w H' a (kvs ++ [(k, v)]) → D.nx σ H'
/-- {}, to be such a dict -/
def tNNew (P : Program) (w : World) : TE := fun _ H Q => ∀ p, H p = none → NdAt P w (upd H p (NdO P w p [])) p [] → Q (.ref p) (upd H p (NdO P w p []))
section
variable {X : Cx} {o i e value : Expr} {pos pos' tpos : Pos} {td ty tv : TE}
theorem pe_dnewN : PE X (.Dict [] [] pos) (tNNew X.prog X.w) := ⟨fun pins s σ H Q I h => by
  have hn : (s.heap.objs.size == sysModules) = false := beq_eq_false_iff_ne.mpr (Ne.symm (Nat.ne_of_lt I.big))
  have h0 := I.hok.fresh (Nat.le_refl s.heap.objs.size)
  refine wpAny_Dict_empty ⟨.ref s.heap.objs.size, _, I.laid (a := s.heap.objs.size) (o := NdO X.prog X.w s.heap.objs.size []) (t' := s.toks) (fun _ _ q => Heap.get?_push_of_some _ q) (Nat.le_refl _) (ndO_ok ⟨_, #[], 0, Heap.get?_push_size _ rfl, ⟨rfl, rfl, rfl⟩, rfl, rfl, (fun x hx => nomatch hx), List.nodup_nil⟩), rfl, h _ h0 ⟨Nat.zero_le _, hn, [], .nil, upd_same⟩⟩⟩
theorem nd_typeIs {pins : List (Addr × Obj)} {σ : St} {H : Hp} {s : Shared} {a : Addr} {kvs : List (NKey × V)} (I : Inv X pins σ H s) (g : NdAt X.prog X.w H a kvs) : s.TypeIs (.ref a) "dict" := by
  obtain ⟨_, _, xs, _, _, dd⟩ := nd_rd I.hok g
  exact dd.typeIs
theorem pe_nget (hu : X.A.units + 2 < cLine) (ho : PE X o td) (hi : PE X i ty) (hs : NoSl i) : PE X (.Subscript o i pos) (tNGet X.prog X.w td ty) := by
  refine ⟨fun pins s σ H Q I h => ?_⟩
  refine subD_of PySem.F.slot_dict_getitem.lookup hs (thn (ho.run pins s σ H _ I h) fun u s1 ⟨x, H1, I1, rx, q1⟩ => thn (hi.run pins s1 σ H1 _ I1 q1) fun iv s2 ⟨y, H2, I2, ry, a, b, kvs, k, v, ex, ey, g, gk, l, q2⟩ => ?_)
  subst ex ey
  obtain rfl : u = Value.ref a := rx
  obtain rfl : iv = Value.ref b := ry
  exact ⟨nd_typeIs I2 g, nd_getItem hu I2 g gk l fun w' s3 I3 rw' => ⟨v, H2, I3, rw', q2⟩⟩
theorem ps_nput (hu : X.A.units + 2 < cLine) (ho : PE X o td) (hi : PE X i ty) (hv : PE X value tv) (hs : swapsWith value (some (.Subscript o i pos')) pos.line X.env = pure false) :
    PS X (.Assign [.Subscript o i pos'] value pos) (sNPut X.prog X.w td ty tv) := by
  refine ⟨fun pins s σ H D I h => ?_⟩
  refine wpAny_Assign_Subscript (thn (hv.run pins s σ H _ I h) fun r s1 ⟨v, H1, I1, rv, q1⟩ => thn (ho.run pins s1 σ H1 _ I1 q1) fun u s2 ⟨x, H2, I2, rx, q2⟩ => thn (hi.run pins s2 σ H2 _ I2 q2) fun iv s3 ⟨y, H3, I3, ry, a, b, kvs, k, ex, ey, g, gk, l, hl, q3⟩ => ?_) hs
  subst ex ey
  obtain rfl : u = Value.ref a := rx
  obtain rfl : iv = Value.ref b := ry
  exact nd_setNew hu I3 g gk l hl rv fun H' s4 ot g' I4 => ⟨σ, H', I4, q3 H' ot g'⟩
end
end L2
end
section
set_option Elab.async false
set_option linter.all false
set_option maxRecDepth 100000
set_option maxHeartbeats 2000000
namespace HT
open PySem PySem.Spec PyProof.Rows
section
variable {prog : Program} {w : World} {A : Around} {E : Value → Shared → Prop} {s : Shared}
theorem adjust_rev (n : Nat) : Builtin.Slice.sliceAdjust none none (-1) (n : Int) = ((n : Int) - 1, -1) := by
  first
  | rfl
  | simp [Builtin.Slice.sliceAdjust]
theorem places_rev (n : Nat) : Builtin.Slice.slicePlaces ((n : Int) - 1) (-1) (-1) = n := by
  unfold Builtin.Slice.slicePlaces
  have h1 : ¬ ((-1 : Int) > 0) := by decide
  simp only [h1, if_false]
  split <;> (first | omega | (rw [show (- -1 : Int) = 1 by decide, Int.ediv_one]; omega) | (simp; omega))
theorem fm_congr {α β : Type} {f g : α → Option β} : ∀ {l : List α}, (∀ x ∈ l, f x = g x) → l.filterMap f = l.filterMap g
  | [], _ => rfl
  | x :: r, h => by
    rw [List.filterMap_cons, List.filterMap_cons, h x List.mem_cons_self, fm_congr fun y hy => h y (List.mem_cons_of_mem _ hy)]
theorem pick_rev (xs : Array Value) : ((List.range xs.size).filterMap fun (m : Nat) => xs[((xs.size : Int) - 1 + (m : Int) * (-1)).toNat]?).toArray = xs.toList.reverse.toArray := by
  have e : ((List.range xs.size).filterMap fun (m : Nat) => xs[((xs.size : Int) - 1 + (m : Int) * (-1)).toNat]?) = ((List.range xs.size).map fun k => xs.size - 1 - k).filterMap (xs[·]?) := by
    rw [List.filterMap_map]
    refine fm_congr fun m hm => ?_
    have := List.mem_range.mp hm
    show xs[((xs.size : Int) - 1 + (m : Int) * (-1)).toNat]? = xs[xs.size - 1 - m]?
    rw [show ((xs.size : Int) - 1 + (m : Int) * (-1)).toNat = xs.size - 1 - m by omega]
  rw [e, PySem.W.krv_range, List.filterMap_reverse, PySem.W.krv_all]
theorem sliceApplied_rev {sl : Addr} {vl vu vs : Value} {n : Nat} {Q : Int × Int × Nat → Shared → Prop} (hs : s.heap.IsSliceOf sl vl vu vs) (pl : IsPart vl none) (pu : IsPart vu none) (ps : IsPart vs (some (-1)))
    (h : Q ((n : Int) - 1, -1, n) s) : wpAny (model prog w) A (Builtin.Slice.sliceApplied (.ref sl) (pure (n : Int))) Q E s := by
  obtain ⟨os, hos, hcs, hds⟩ := id hs
  unfold Builtin.Slice.sliceApplied Builtin.Slice.sliceFields
  refine wpAny_bind (wpAny_bind (wpAny_field hos hds (x := vl) rfl (wpAny_bind (wpAny_field hos hds (x := vu) rfl (wpAny_bind (wpAny_field hos hds (x := vs) rfl (wpAny_pure ?_)))))))
  refine wpAny_bind (slicePart_ ps ?_)
  show wpAny _ _ (if ((-1 : Int) == 0) = true then _ else _) _ _ s
  rw [if_neg (by decide)]
  refine wpAny_bind (slicePart_ pl (wpAny_bind (slicePart_ pu (wpAny_bind (wpAny_pure ?_)))))
  show wpAny _ _ (match Builtin.Slice.sliceAdjust none none (-1) (n : Int) with | (lo, hi) => pure (lo, (-1 : Int), Builtin.Slice.slicePlaces lo hi (-1))) _ _ s
  rw [adjust_rev n]
  show wpAny _ _ (pure ((n : Int) - 1, (-1 : Int), Builtin.Slice.slicePlaces ((n : Int) - 1) (-1) (-1))) _ _ s
  rw [places_rev]
  exact wpAny_pure h
theorem getItem_tuple_rev {t sl : Addr} {items : Array Value} {vl vu vs : Value} {Q : Value → Shared → Prop} (ht : IsTup s.heap t items) (hs : s.heap.IsSliceOf sl vl vu vs) (pl : IsPart vl none) (pu : IsPart vu none) (ps : IsPart vs (some (-1)))
    (h : Q (.ref s.heap.objs.size) { s with heap := s.heap.push { cls := .type "tuple", data := .seq items.toList.reverse.toArray } })
    (hsz : items.size ≤ sizeLine) : wpAny (model prog w) A (getItem (.ref t) (.ref sl)) Q E s := by
  have hok : sizeOk (.seq items.toList.reverse.toArray) := by
    show items.toList.reverse.toArray.size ≤ sizeLine
    rw [List.size_toArray, List.length_reverse, Array.length_toList]
    exact hsz
  obtain ⟨os, hos, hcs, hds⟩ := id hs
  have hTs : s.TypeIs (.ref sl) "slice" := ⟨os, hos, hcs⟩
  unfold getItem
  try with_reducible refine wpAny_holding ?_
  first | refine wpAny_bind (wpAny_pure ?_) | skip
  refine wpAny_bind (wpAny_sequenceKey ht.typeIs (by decide) ?_)
  refine wpAny_bind (wpAny_callSpecial?_slot (name := Str.ofString "__getitem__") ht.typeIs PyProof.Rows.slot_tuple_getitem
    (wpAny_call_entry PyProof.Rows.slot_tuple_getitem ht.typeIs entry_tuple_getitem ?_ (args_tuple_getitem _ _)))
  show wpAny _ _ (Builtin.Tuple.tupleItemsOf (.ref t) >>= _) _ _ s
  refine wpAny_bind (tupleItemsOf_ ht ?_)
  refine wpAny_bind (wpAny_typeOf hTs ?_)
  rw [if_pos (by decide)]
  refine wpAny_bind (sliceApplied_rev hs pl pu ps ?_)
  have hno : ¬ (((((items.size : Nat) : Int) - 1) == 0 && (-1 : Int) == 1 && items.size == items.size) = true) := by
    intro q
    rw [Bool.and_eq_true, Bool.and_eq_true] at q
    exact absurd (eq_of_beq q.1.2) (by decide)
  show wpAny _ _ (if ((((items.size : Nat) : Int) - 1) == 0 && (-1 : Int) == 1 && items.size == items.size) = true then _ else _) _ _ s
  rw [if_neg hno, pick_rev]
  first
    | exact wpAny_bind (m := Builtin.Tuple.tupleExact _) (wpAny_newObj_type (wpAny_pure ⟨_, rfl, wpAny_pure h⟩) hok)
    | exact wpAny_bind (m := Builtin.Tuple.tupleExact _) (wpAny_newObj_type (wpAny_bind (wpAny_pure (wpAny_pure ⟨_, rfl, wpAny_pure h⟩))) hok)
    | exact wpAny_bind (wpAny_bind (m := Builtin.Tuple.tupleExact _) (wpAny_newObj_type (wpAny_pure (wpAny_pure ⟨_, rfl, wpAny_pure h⟩)) hok))
    | exact wpAny_bind (wpAny_bind (m := Builtin.Tuple.tupleExact _) (wpAny_newObj_type (wpAny_pure ⟨_, rfl, wpAny_pure h⟩) hok))
end
end HT
namespace L2
open PySem PySem.Spec PyProof.Rows
def tRevT (K : PySem.W.Frag) (te : TE) : TE := fun σ H Q => te σ H fun x H1 => ∃ a xs, x = .ref a ∧ SqT K H1 a xs ∧ ∀ p, H1 p = none → Q (.ref p) (upd H1 p (.tup xs.reverse))
theorem pe_revT {X : Cx} {e : Expr} {te : TE} {k : Nat} {p1 p2 p3 pos : Pos} (he : PE X e te) : PE X (.Subscript e (.Slice none none (some (.UnaryOp .USub (.Constant (.int 1) k p1) p2)) p3) pos) (tRevT X.K te) := by
  refine ⟨fun pins s σ H Q I h => ?_⟩
  refine Subscript_ (thn (he.run pins s σ H _ I h) fun v s1 ⟨x, H1, I1, r1, q1⟩ => ?_)
  obtain ⟨a, xs, ex, hx, q⟩ := q1
  subst ex
  cases r1
  have hst : PO X (some (.UnaryOp .USub (.Constant (.int 1) k p1) p2)) (tPart (tUn (rU fun i => .int (-i)) (tC (.int 1)))) := po_some (pe_un un_neg pe_int)
  refine wpAny_Slice (thn (po_none.run pins s1 σ H1 (fun o H2 => o = none ∧ H2 = H1) I1 ⟨rfl, rfl⟩) fun vl s2 ⟨l, H2, I2, pl, el, e2⟩ => ?_)
  subst el e2
  refine thn (po_none.run pins s2 σ H2 (fun o H3 => o = none ∧ H3 = H2) I2 ⟨rfl, rfl⟩) fun vu s3 ⟨u, H3, I3, pu, eu, e3⟩ => ?_
  subst eu e3
  refine thn (hst.run pins s3 σ H3 (fun o H4 => o = some (-1) ∧ H4 = H3) I3 ⟨1, rfl, -1, rfl, rfl, rfl⟩) fun vs s4 ⟨o, H4, I4, ps, eo, e4⟩ => ?_
  subst eo e4
  have I5 : Inv X pins σ H4 { s4 with heap := s4.heap.push { cls := .type "slice", data := .fields #[vl, vu, vs] } } := I4.kept (t' := s4.toks) fun b ob q => Heap.get?_push_of_some _ q
  obtain ⟨its, r, ht, hz⟩ := I5.tuple hx
  have hlen := r.length
  show wpAny (model X.prog X.w) X.A (subscriptTail e (.Slice none none (some (.UnaryOp .USub (.Constant (.int 1) k p1) p2)) p3) (.ref a) (.ref s4.heap.objs.size)) (EP X pins σ Q) X.xe { s4 with heap := s4.heap.push { cls := .type "slice", data := .fields #[vl, vu, vs] } }
  refine tail_any (ops := [.ref a, .ref s4.heap.objs.size]) ht.typeIs (PyProof.Rows.slot_tuple_getitem.lookup) ?_ (by with_unfolding_all rfl)
  refine HT.getItem_tuple_rev ht (Heap.IsSliceOf.new _ vl vu vs) pl pu ps ?_ (by rw [List.size_toArray]; omega)
  refine ⟨.ref _, _, I5.laid (t' := s4.toks) (o := .tup xs.reverse) (fun b ob q => Heap.get?_push_of_some _ q) (Nat.le_refl _) ?_, rfl, q _ (I5.hok.fresh (Nat.le_refl _))⟩
  exact ⟨by rw [List.length_reverse]; exact hz, _, r.reverse, IsTup.new _ _⟩
end L2
end
section
set_option Elab.async false
set_option linter.all false
set_option maxRecDepth 100000
set_option maxHeartbeats 4000000
namespace L2
open PySem PySem.Spec PyProof.Rows
section
variable {J J1 : It} {n n1 : Nat} {G G1 : Hp → Prop} {Y Y1 : Nat → Hp → V → Hp → Prop}
theorem in_it (w : Walk J1 n1 G1 Y1) {g1 : TG} {tt1 : TT} {te : TE} {vs1 : List Nat} {σ2 : St} {H4 : Hp} {D : Addr} {Nx : Hp → Prop} (Pw : Nat → Hp → Prop) (h0 : Pw 0 H4) (hG : ∀ i H, i ≤ n1 → Pw i H → G1 H)
    (hs : ∀ i x H H', i < n1 → Pw i H → Y1 i H x H' → g1 x (wipe σ2 vs1) H' fun σ3 H5 => wipe σ3 vs1 = wipe σ2 vs1 ∧ tt1 σ3 H5 fun b H6 =>
      if b = true then te σ3 H6 fun y H7 => ∃ acc, H7 D = some (.lst acc) ∧ acc.length < sizeLine ∧ Pw (i + 1) (upd H7 D (.lst (acc ++ [y]))) else Pw (i + 1) H6) (hd : ∀ H, Pw n1 H → Nx H) :
    ∃ W1 : Nat → Nat → Hp → Prop, (∃ m, W1 0 m H4) ∧ ∀ j k H, W1 j k H →
      (J1.stop j H ∧ Nx H) ∨ (J1.go j H ∧ ∃ Nx1 : Hp → Prop, (∀ H', Nx1 H' → ∃ k', k' < k ∧ W1 (j + 1) k' H') ∧ ∀ x H', J1.yld j H x H' → g1 x (wipe σ2 vs1) H' fun σ3 H5 => wipe σ3 vs1 = wipe σ2 vs1 ∧ tt1 σ3 H5 fun b H6 =>
        if b = true then te σ3 H6 fun y H7 => ∃ acc, H7 D = some (.lst acc) ∧ acc.length < sizeLine ∧ Nx1 (upd H7 D (.lst (acc ++ [y]))) else Nx1 H6) := by
  refine ⟨fun i m H => m = n1 - i ∧ i ≤ n1 ∧ Pw i H, ⟨n1, by simp, Nat.zero_le _, h0⟩, ?_⟩
  rintro i m H ⟨rfl, hi, p⟩
  have q := hG i H hi p
  by_cases hlt : i < n1
  · refine .inr ⟨w.goes i H hlt q, Pw (i + 1), fun H' p' => ⟨n1 - (i + 1), by omega, rfl, hlt, p'⟩, fun x H' y => hs i x H H' hlt p (w.yields i H x H' hlt q y)⟩
  · have e : i = n1 := by omega
    subst e
    exact .inl ⟨w.stops H q, hd H p⟩
theorem lc2_it (w : Walk J n G Y) {g g1 : TG} {tt tt1 : TT} {wi1 : TI} {te : TE} {vs vs1 : List Nat} {σ : St} {H1 : Hp} {D : Addr} {Qd : Hp → Prop} (Pv : Nat → Hp → Prop) (h0 : Pv 0 (upd H1 D (.lst []))) (hG : ∀ i H, i ≤ n → Pv i H → G H)
    (hs : ∀ i x H H', i < n → Pv i H → Y i H x H' → g x (wipe σ vs) H' fun σ2 H2 => wipe σ2 vs = wipe σ vs ∧ tt σ2 H2 fun b H3 =>
      if b = true then wi1 σ2 H3 fun J1 H4 => ∃ W1 : Nat → Nat → Hp → Prop, (∃ m, W1 0 m H4) ∧ ∀ j k H, W1 j k H →
        (J1.stop j H ∧ Pv (i + 1) H) ∨ (J1.go j H ∧ ∃ Nx1 : Hp → Prop, (∀ H', Nx1 H' → ∃ k', k' < k ∧ W1 (j + 1) k' H') ∧ ∀ x H', J1.yld j H x H' → g1 x (wipe σ2 vs1) H' fun σ3 H5 => wipe σ3 vs1 = wipe σ2 vs1 ∧ tt1 σ3 H5 fun b H6 =>
          if b = true then te σ3 H6 fun y H7 => ∃ acc, H7 D = some (.lst acc) ∧ acc.length < sizeLine ∧ Nx1 (upd H7 D (.lst (acc ++ [y]))) else Nx1 H6)
      else Pv (i + 1) H3) (hd : ∀ H, Pv n H → Qd H) :
    ∃ W : Nat → Nat → Hp → Prop, (∃ m, W 0 m (upd H1 D (.lst []))) ∧ ∀ i m H, W i m H →
      (J.stop i H ∧ Qd H) ∨ (J.go i H ∧ ∃ Nx : Hp → Prop, (∀ H', Nx H' → ∃ m', m' < m ∧ W (i + 1) m' H') ∧ ∀ x H', J.yld i H x H' → g x (wipe σ vs) H' fun σ2 H2 => wipe σ2 vs = wipe σ vs ∧ tt σ2 H2 fun b H3 =>
        if b = true then wi1 σ2 H3 fun J1 H4 => ∃ W1 : Nat → Nat → Hp → Prop, (∃ m, W1 0 m H4) ∧ ∀ j k H, W1 j k H →
          (J1.stop j H ∧ Nx H) ∨ (J1.go j H ∧ ∃ Nx1 : Hp → Prop, (∀ H', Nx1 H' → ∃ k', k' < k ∧ W1 (j + 1) k' H') ∧ ∀ x H', J1.yld j H x H' → g1 x (wipe σ2 vs1) H' fun σ3 H5 => wipe σ3 vs1 = wipe σ2 vs1 ∧ tt1 σ3 H5 fun b H6 =>
            if b = true then te σ3 H6 fun y H7 => ∃ acc, H7 D = some (.lst acc) ∧ acc.length < sizeLine ∧ Nx1 (upd H7 D (.lst (acc ++ [y]))) else Nx1 H6)
        else Nx H3) := by
  refine ⟨fun i m H => m = n - i ∧ i ≤ n ∧ Pv i H, ⟨n, by simp, Nat.zero_le _, h0⟩, ?_⟩
  rintro i m H ⟨rfl, hi, p⟩
  have q := hG i H hi p
  by_cases hlt : i < n
  · refine .inr ⟨w.goes i H hlt q, Pv (i + 1), fun H' p' => ⟨n - (i + 1), by omega, rfl, hlt, p'⟩, fun x H' y => hs i x H H' hlt p (w.yields i H x H' hlt q y)⟩
  · have e : i = n := by omega
    subst e
    exact .inl ⟨w.stops H q, hd H p⟩
end
end L2
namespace L2
open PySem PySem.Spec PyProof.Rows
section
variable {X : Cx}
/-- y = {k: v for ..} -/
theorem ps_setDc {i : Nat} {y : Str} {py : Pos} {kx vx tg iter : Expr} {ifs : List Expr} {scope : Scope} {own : List (Str × Nat)} {pos spos : Pos} {wi : TI} {g : TG} {tt : TT} {tk tv : TE} (hc : X.calm = true) (hN : X.N.Nodup) (hy : X.N[i]? = some y) (hyl : X.env.scope.names.lookup y = some .local)
    (hsw : swapsWith (.DictComp kx vx [⟨tg, iter, ifs, 0⟩] scope pos) (some (.Name y py)) spos.line X.env = pure true) (hi : PI X tg iter wi) (ok : BlkOk X.N X.env.scope scope own)
    (hg : ∀ (s : Shared) (H : Hp) (C : Addr) (cl : List (Str × Addr)) (fp : List Addr), PG (X.blk s H scope (compEnvC scope cl C X.env) fp) tg g) (ht : ∀ (s : Shared) (H : Hp) (C : Addr) (cl : List (Str × Addr)) (fp : List Addr), PTs (X.blk s H scope (compEnvC scope cl C X.env) fp) ifs tt)
    (hk : ∀ (s : Shared) (H : Hp) (C : Addr) (cl : List (Str × Addr)) (fp : List Addr), PE (X.blk s H scope (compEnvC scope cl C X.env) fp) kx tk)
    (he : ∀ (s : Shared) (H : Hp) (C : Addr) (cl : List (Str × Addr)) (fp : List Addr), PE (X.blk s H scope (compEnvC scope cl C X.env) fp) vx tv) (hs : ∀ x, foldedSetIterable iter X.env x = pure x := by intro _; rfl) :
    PS X (.Assign [.Name y py] (.DictComp kx vx [⟨tg, iter, ifs, 0⟩] scope pos) spos) (tAsg (tDc wi g tt tk tv (own.map (·.2))) (gName i)) := by
  refine ⟨fun pins s σ H D I h => ?_⟩
  rw [exec_Assign_Name_used _ _ _ _ hsw]
  refine wpAny_bind (wpAny_standAt (wpAny_bind ?_))
  show wpAny _ X.A (do let _ ← comprehension (.DictComp kx vx [⟨tg, iter, ifs, 0⟩] scope pos) scope X.env (firstIterPos [⟨tg, iter, ifs, 0⟩] pos) newDict false (eval iter X.env) (some (assign (.Name y py) X.env))) _ _ s
  have h : tDc wi g tt tk tv (own.map (·.2)) σ H (fun x H1 => gName i x σ H1 D.nx) := h
  refine wpAny_bind (thn (dc_core (Qf := fun _ s' => SP X pins D .next s') hc hN I hi ok hg ht hk he hs h fun L C s' m H' I' q hn f => ?_) fun _ s' hq => wpAny_pure (wpAny_pure hq))
  show wpAny _ _ (assign (.Name y py) X.env (.ref L)) _ _ _
  refine wpAny_assign_Name (store_ok2 (v := V.ref L) I' hN hy (.inl hyl) rfl (fun s2 I2 ⟨a, sb, ha⟩ => ?_) (.inr hyl))
  obtain ⟨f0, f1, f2, f3, f4, f5⟩ := f
  have haC : C ≠ a := by
    rcases ha with z | z
    · rw [z]; exact f1
    · exact fun e => f4 y a z e.symm
  refine ⟨m, hn.sameBut sb haC, fun h3 sb3 => ?_⟩
  exact ⟨_, H', I2.turned (t' := s2.toks) (fun b o hb e => (sb3.2 b hb).trans e) f0 f1 f3 f4 f5, q⟩
theorem sw_trueD {kx vx : Expr} {gs : List Comprehension} {scope : Scope} {pos py : Pos} {y : Str} {l : Nat} {env : Env} (hk : env.scope.kind = .function) (hy : env.scope.names.lookup y = some .local) (hl : (py.line == pos.line) = true)
    (ha : (scope.names.any fun (n, k) => n == y && (k == .local || k == .cell)) = false) : swapsWith (.DictComp kx vx gs scope pos) (some (.Name y py)) l env = pure true := by
  have ky : env.kindOf y = some .local := hy
  have hb : env.blockKind = .function := by unfold Env.blockKind; rw [hk]; rfl
  unfold swapsWith
  simp only [hb, ky, ha, Expr.pos, hl]
  rfl
/-- o.m() by a positional promise -/
theorem pe_methR0 {CX : CXT} {k : Nat} {C f : Addr} {m : Str} {sp : Sp} {E : XK} {o : Expr} {ta : TE} {apos pos : Pos} {pl : Sem Bool} (he : PE X o ta) (c : Cls X.K C) (hm : Meth X.K C m f)
    (F : FnR X.prog X.w X.K X.mg X.base CX k f sp) (hr : Room k X.A) (hx : Passes CX X E)
    (ht : eval (.Call (.Attribute o m apos) [] [] pos) X.env = (do
      let ov ← eval o X.env
      standAt apos.atName
      let (f, first) ← holding [ov] (getMethod ov m pl)
      callWith pos f first (backTo pos (starEach [] X.env)) (backToKw pos (keywordEach [] X.env))) := by rfl) :
    PE X (.Call (.Attribute o m apos) [] [] pos) (tMethR C m sp E ta tNil) := by
  refine ⟨fun pins s σ H Q I h => ?_⟩
  refine PySem.W.methodCall_KW (pl := pl) (thn (he.run pins s σ H _ I h) fun u s1 ⟨x, H1, I1, rx, a, dx, fs, ex, ea, l, q⟩ => ?_) ht
  subst ex
  obtain rfl : u = Value.ref a := rx
  refine getmeth_ok I1 ea c hm l ?_
  exact PySem.W.callWith_K0 (first := [.ref a]) I1.kIn hm.kp (wpAny_call (run_fnR (us := [.ref a]) (vs := [.ref a]) F hr hx I1 (.cons rfl .nil) q))
end
end L2
namespace Sh
open PySem PySem.Spec PyProof.Rows L2
open C8 (pss_cut tCut)
open Evl (ixN_nat)
theorem wR_row {rows : List Row} {m : Int} (R : ROk m rows) {q : Row} (h : q ∈ rows) : ((wR rows q.1 : Nat) : Int) = q.2 := by
  obtain ⟨i, hi, rfl⟩ := List.mem_iff_getElem.mp h
  exact row_at R hi
theorem hu2_of {A : Around} {k : Nat} (hr : Room k A) : A.units + 2 < cLine := Nat.lt_of_le_of_lt (Nat.add_le_add_left (by decide : 2 ≤ 64) _) hr.units
theorem inl_inj : ∀ {l m : List Nat}, (l.map fun i => (.inl ((i : Nat) : Int) : Key)) = m.map (fun i => .inl ((i : Nat) : Int)) → l = m
  | [], [], _ => rfl
  | [], _ :: _, h => by cases h
  | _ :: _, [], h => by cases h
  | x :: r, y :: t, h => by
    rw [List.map_cons, List.map_cons] at h
    injection h with h1 h2
    injection h1 with h1
    rw [inl_inj h2, show x = y by omega]
def nI (cs : List Nat) : List V := cs.map fun i => V.int ((i : Nat) : Int)
theorem nI_key (cs : List Nat) : nI cs = (cs.map fun i => (.inl ((i : Nat) : Int) : Key)).map kV := by
  unfold nI
  rw [List.map_map]
  rfl
theorem ROk.up {rows : List Row} (R : ROk 4 rows) : ROk 8 rows := ⟨R.pos, by have := R.len; omega, R.nd, R.nm, R.wd, R.leaf⟩
def PlAt {α : Type} (f : α → List V) (H : Hp) (ts : List Addr) (xs : List α) : Prop := ts.length = xs.length ∧ ∀ (i : Nat) (t : Addr) (x : α), ts[i]? = some t → xs[i]? = some x → H t = some (.tup (f x))
theorem PlAt.keep {α : Type} {f : α → List V} {H H' : Hp} {ts : List Addr} {xs : List α} (x : PlAt f H ts xs) (k : ∀ t ys, H t = some (.tup ys) → H' t = some (.tup ys)) : PlAt f H' ts xs := ⟨x.1, fun i t q a b => k _ _ (x.2 i t q a b)⟩
theorem PlAt.nil {α : Type} {f : α → List V} {H : Hp} : PlAt f H [] [] := ⟨rfl, fun i t x a => by simp at a⟩
theorem PlAt.snoc {α : Type} {f : α → List V} {H : Hp} {ts : List Addr} {xs : List α} {t : Addr} {q : α} (x : PlAt f H ts xs) (h : H t = some (.tup (f q))) : PlAt f H (ts ++ [t]) (xs ++ [q]) := by
  refine ⟨by rw [List.length_append, List.length_append, x.1]; rfl, fun i u y a b => ?_⟩
  by_cases e : i < ts.length
  · rw [List.getElem?_append_left e] at a
    rw [List.getElem?_append_left (by rw [← x.1]; exact e)] at b
    exact x.2 i u y a b
  · have el : i - ts.length < 1 := by
      have := (List.getElem?_eq_some_iff.mp a).1
      rw [List.length_append] at this
      have : ([t] : List Addr).length = 1 := rfl
      omega
    rw [List.getElem?_append_right (by omega)] at a
    rw [List.getElem?_append_right (by rw [← x.1]; omega), ← x.1] at b
    have e0 : i - ts.length = 0 := by omega
    rw [e0] at a b
    injection a with a
    injection b with b
    rw [← a, ← b]
    exact h
theorem PlAt.erase {α : Type} {f : α → List V} {H : Hp} {ts : List Addr} {xs : List α} (k : Nat) (x : PlAt f H ts xs) : PlAt f H (ts.eraseIdx k) (xs.eraseIdx k) := by
  refine ⟨by rw [List.length_eraseIdx, List.length_eraseIdx, x.1], fun i t q a b => ?_⟩
  rw [List.getElem?_eraseIdx] at a b
  split at a
  · rename_i h
    rw [if_pos h] at b
    exact x.2 _ _ _ a b
  · rename_i h
    rw [if_neg h] at b
    exact x.2 _ _ _ a b
theorem nd_at {ns : List Str} (h : ns.Nodup) {a b : Nat} {n : Str} (h1 : ns[a]? = some n) (h2 : ns[b]? = some n) : a = b := by
  obtain ⟨l1, e1⟩ := List.getElem?_eq_some_iff.mp h1
  obtain ⟨l2, e2⟩ := List.getElem?_eq_some_iff.mp h2
  exact (List.getElem_inj h).mp (e1.trans e2.symm)
theorem PlAt.take {α : Type} {f : α → List V} {H : Hp} {ts : List Addr} {xs : List α} (k : Nat) (x : PlAt f H ts xs) : PlAt f H (ts.take k) (xs.take k) := by
  refine ⟨by rw [List.length_take, List.length_take, x.1], fun i t q a b => ?_⟩
  have hi : i < k := by
    have := (List.getElem?_eq_some_iff.mp a).1
    rw [List.length_take] at this
    omega
  rw [List.getElem?_take_of_lt hi] at a b
  exact x.2 i t q a b
theorem PlAt.drop {α : Type} {f : α → List V} {H : Hp} {ts : List Addr} {xs : List α} (k : Nat) (x : PlAt f H ts xs) : PlAt f H (ts.drop k) (xs.drop k) := by
  refine ⟨by rw [List.length_drop, List.length_drop, x.1], fun i t q a b => ?_⟩
  rw [List.getElem?_drop] at a b
  exact x.2 _ t q a b
theorem PlAt.app {α : Type} {f : α → List V} {H : Hp} {ts us : List Addr} {xs ys : List α} (x : PlAt f H ts xs) (y : PlAt f H us ys) : PlAt f H (ts ++ us) (xs ++ ys) := by
  refine ⟨by rw [List.length_append, List.length_append, x.1, y.1], fun i t q a b => ?_⟩
  by_cases c : i < ts.length
  · rw [List.getElem?_append_left c] at a
    rw [List.getElem?_append_left (by rw [← x.1]; exact c)] at b
    exact x.2 i t q a b
  · rw [List.getElem?_append_right (by omega)] at a
    rw [List.getElem?_append_right (by rw [← x.1]; omega), ← x.1] at b
    exact y.2 _ t q a b
theorem PlAt.one {α : Type} {f : α → List V} {H : Hp} {t : Addr} {x : α} (h : H t = some (.tup (f x))) : PlAt f H [t] [x] := by
  have := (PlAt.nil (f := f) (H := H)).snoc (t := t) (q := x) h
  exact this
def HasN (rows : List Row) (z : Str) : Prop := ∃ q ∈ rows, q.1 = z
def tnL (ns : List Str) (ds : List Addr) : List (Key × V) := (ns.zip ds).map fun q => (.inr q.1, .ref q.2)
theorem tn_val {ns : List Str} {ds : List Addr} (nd : ns.Nodup) {i : Nat} {n : Str} {a : Addr} (h1 : ns[i]? = some n) (h2 : ds[i]? = some a) : valV (tnL ns ds) (.inr n) = some (.ref a) := by
  unfold valV tnL
  rw [List.find?_map]
  have hz : (ns.zip ds)[i]? = some (n, a) := List.getElem?_zip_eq_some.mpr ⟨h1, h2⟩
  have : (ns.zip ds).find? ((fun kv : Key × V => decide (kv.1 = Sum.inr n)) ∘ fun q : Str × Addr => ((.inr q.1 : Key), V.ref q.2)) = some (n, a) := by
    have e : ((fun kv : Key × V => decide (kv.1 = Sum.inr n)) ∘ fun q : Str × Addr => ((.inr q.1 : Key), V.ref q.2)) = fun q => decide (q.1 = n) := by
      funext q
      exact key_rr q.1 n
    rw [e]
    have hm := List.mem_of_getElem? hz
    cases hf : (ns.zip ds).find? (fun q => decide (q.1 = n)) with
    | none => exact absurd (List.find?_eq_none.mp hf _ hm) (by simp)
    | some q =>
      have hp := List.find?_some hf
      have e1 : q.1 = n := of_decide_eq_true hp
      obtain ⟨j, hj⟩ := List.mem_iff_getElem?.mp (List.mem_of_find?_eq_some hf)
      obtain ⟨j1, j2⟩ := List.getElem?_zip_eq_some.mp hj
      rw [e1] at j1
      have := nd_at nd h1 j1
      subst this
      rw [h2] at j2
      injection j2 with j2
      exact congrArg some (Prod.ext e1 j2.symm)
  rw [this]
  rfl
theorem inr_iff {a b : Str} : (Sum.inr a : Key) = Sum.inr b ↔ a = b := ⟨fun h => by injection h, fun h => by rw [h]⟩
def wstep (f : List (List Nat)) (l : List Nat) : List (List Nat) := f.flatMap fun w => l.map fun s => w ++ [s]
def ways (ls : List (List Nat)) : List (List Nat) := ls.foldl wstep [[]]
theorem ways_snoc (ls : List (List Nat)) (l : List Nat) : ways (ls ++ [l]) = wstep (ways ls) l := by
  unfold ways
  rw [List.foldl_append]
  rfl
theorem ways_succ {ls : List (List Nat)} {i : Nat} {l : List Nat} (h : ls[i]? = some l) : ways (ls.take (i + 1)) = wstep (ways (ls.take i)) l := by
  rw [← ways_snoc]
  congr 1
  rw [List.take_add_one, h]
  rfl
theorem wstep_len (f : List (List Nat)) (l : List Nat) : (wstep f l).length = f.length * l.length := by
  unfold wstep
  induction f with
  | nil => simp
  | cons w f ih =>
    rw [List.flatMap_cons, List.length_append, ih, List.length_map, List.length_cons, Nat.succ_mul]
    omega
theorem ways_mem {ls : List (List Nat)} {ss : List Nat} : ss ∈ ways ls ↔ ss.length = ls.length ∧ ∀ (i : Nat) (s : Nat) (l : List Nat), ss[i]? = some s → ls[i]? = some l → s ∈ l := by
  suffices h : ∀ (n : Nat) (ls : List (List Nat)), ls.length = n → ∀ ss : List Nat, ss ∈ ways ls ↔ ss.length = ls.length ∧ ∀ (i : Nat) (s : Nat) (l : List Nat), ss[i]? = some s → ls[i]? = some l → s ∈ l from h _ ls rfl ss
  intro n
  induction n with
  | zero =>
    intro ls e ss
    have : ls = [] := List.eq_nil_of_length_eq_zero e
    subst this
    show ss ∈ [[]] ↔ _
    rw [List.mem_singleton]
    constructor
    · rintro rfl
      exact ⟨rfl, fun i s l h => by simp at h⟩
    · rintro ⟨h, _⟩
      exact List.eq_nil_of_length_eq_zero h
  | succ n ih =>
    intro ls e ss
    have hne : ls ≠ [] := fun z => by rw [z] at e; cases e
    have hl := List.dropLast_concat_getLast hne
    generalize ls.dropLast = m at hl
    generalize ls.getLast hne = l at hl
    subst hl
    rw [List.length_append] at e
    have em : m.length = n := by have : ([l] : List (List Nat)).length = 1 := rfl; omega
    rw [ways_snoc]
    unfold wstep
    rw [List.mem_flatMap]
    constructor
    · rintro ⟨w, hw, hs⟩
      obtain ⟨s, hs', rfl⟩ := List.mem_map.mp hs
      obtain ⟨h1, h2⟩ := (ih m em w).mp hw
      refine ⟨by rw [List.length_append, List.length_append, h1]; rfl, fun i x k hx hk => ?_⟩
      by_cases c : i < w.length
      · rw [List.getElem?_append_left c] at hx
        rw [List.getElem?_append_left (by omega)] at hk
        exact h2 i x k hx hk
      · have ci : i = w.length := by
          have := (List.getElem?_eq_some_iff.mp hx).1
          rw [List.length_append] at this
          have : ([s] : List Nat).length = 1 := rfl
          omega
        subst ci
        rw [List.getElem?_append_right (Nat.le_refl _), Nat.sub_self] at hx
        rw [List.getElem?_append_right (by omega), h1, Nat.sub_self] at hk
        cases hx
        cases hk
        exact hs'
    · rintro ⟨h1, h2⟩
      have h1' : ss.length = m.length + 1 := by rw [h1, List.length_append]; rfl
      have sne : ss ≠ [] := fun z => by rw [z] at h1'; cases h1'
      have hs := List.dropLast_concat_getLast sne
      generalize ss.dropLast = w at hs
      generalize ss.getLast sne = s at hs
      subst hs
      have lw : w.length = m.length := by rw [List.length_append] at h1'; have : ([s] : List Nat).length = 1 := rfl; omega
      refine ⟨w, (ih m em w).mpr ⟨lw, fun i x k hx hk => ?_⟩, List.mem_map.mpr ⟨s, ?_, rfl⟩⟩
      · have c := (List.getElem?_eq_some_iff.mp hx).1
        exact h2 i x k (by rw [List.getElem?_append_left c]; exact hx) (by rw [List.getElem?_append_left (by omega)]; exact hk)
      · refine h2 w.length s l ?_ ?_
        · rw [List.getElem?_append_right (Nat.le_refl _), Nat.sub_self]; rfl
        · rw [List.getElem?_append_right (by omega), lw, Nat.sub_self]; rfl
theorem nI_snoc (w : List Nat) (s : Nat) : nI w ++ [V.int ((s : Nat) : Int)] = nI (w ++ [s]) := by
  unfold nI
  rw [List.map_append]
  rfl
theorem nI_len (w : List Nat) : (nI w).length = w.length := by unfold nI; rw [List.length_map]
theorem nI_at {w : List Nat} {i s : Nat} (h : w[i]? = some s) : (nI w)[i]? = some (.int ((s : Nat) : Int)) := by
  unfold nI
  rw [List.getElem?_map, h]
  rfl
theorem catA_n {K : PySem.W.Frag} {H : Hp} {a b : Addr} {xs ys : List V} {Q : VK} (ha : H a = some (.tup xs)) (hb : H b = some (.tup ys)) (hl : xs.length + ys.length ≤ 10000000) (k : ∀ r H', Same H H' → H' r = some (.tup (xs ++ ys)) → Q (.ref r) H') : rCatA K (.ref a) (.ref b) H Q :=
  ⟨a, b, xs, ys, rfl, rfl, SqT.of ha, SqT.of hb, le_line hl, fun e => k b H (Same.refl H) (by rw [e]; exact hb), fun _ e => k a H (Same.refl H) (by rw [e, List.append_nil]; exact ha), fun _ _ p hp => k p _ ((Same.refl H).upd_new hp) upd_same⟩
theorem wstep_take {f : List (List Nat)} {l : List Nat} {j : Nat} {w : List Nat} (h : f[j]? = some w) : wstep (f.take (j + 1)) l = wstep (f.take j) l ++ l.map fun s => w ++ [s] := by
  unfold wstep
  rw [List.take_add_one, h, List.flatMap_append]
  show _ ++ ((l.map fun s => w ++ [s]) ++ []) = _
  rw [List.append_nil]
theorem wmap_take {w l : List Nat} {j s : Nat} (h : l[j]? = some s) : (l.take (j + 1)).map (fun s => w ++ [s]) = (l.take j).map (fun s => w ++ [s]) ++ [w ++ [s]] := by
  rw [List.take_add_one, h, List.map_append]
  rfl
def WaysAt (H : Hp) (L : Addr) (f : List (List Nat)) : Prop := ∃ us : List Addr, H L = some (.lst (us.map V.ref)) ∧ PlAt nI H us f
def LsAt (H : Hp) (bs : List Addr) (ls : List (List Nat)) : Prop := bs.length = ls.length ∧ ∀ (i : Nat) (b : Addr) (l : List Nat), bs[i]? = some b → ls[i]? = some l → H b = some (.lst (nI l))
theorem get_map_r {us : List Addr} {i : Nat} {v : V} (h : (us.map V.ref)[i]? = some v) : ∃ u, us[i]? = some u ∧ v = .ref u := by
  rw [List.getElem?_map] at h
  obtain ⟨u, hu, e⟩ := Option.map_eq_some_iff.mp h
  exact ⟨u, hu, e.symm⟩
abbrev REnt : Type := Str × List Nat × Nat
def ek (e : REnt) : Str × List Nat := (e.1, e.2.1)
def nkR (p : Str × List Nat) : NKey := (.inr p.1, p.2.map fun i => .inl ((i : Nat) : Int))
def rkv (e : REnt) : NKey × V := (nkR (ek e), .int ((e.2.2 : Nat) : Int))
theorem nkR_inj {p q : Str × List Nat} (h : nkR p = nkR q) : p = q := by
  obtain ⟨a, l⟩ := p
  obtain ⟨b, m⟩ := q
  unfold nkR at h
  obtain ⟨h1, h2⟩ := Prod.mk.inj h
  injection h1 with h1
  have h1 : a = b := h1
  have h2 : l = m := inl_inj h2
  rw [h1, h2]
def wq (many : Nat) (q : Row) : List (List Nat) := ways (List.replicate q.2.toNat (List.range many))
def ksOf (rows : List Row) (many : Nat) : List (Str × List Nat) := rows.flatMap fun q => (wq many q).map fun ss => (q.1, ss)
theorem wstep_nd {f : List (List Nat)} {l : List Nat} (n : Nat) (hl : ∀ w ∈ f, w.length = n) (h1 : f.Nodup) (h2 : l.Nodup) : (wstep f l).Nodup := by
  unfold wstep
  rw [List.nodup_iff_pairwise_ne, List.pairwise_flatMap]
  refine ⟨fun w hw => ?_, ?_⟩
  · rw [List.pairwise_map]
    exact (List.nodup_iff_pairwise_ne.mp h2).imp fun h e => h (by
      have := List.append_cancel_left e
      injection this)
  · refine (List.nodup_iff_pairwise_ne.mp h1).imp_of_mem fun {a b} ha hb h x hx y hy e => ?_
    obtain ⟨s, _, rfl⟩ := List.mem_map.mp hx
    obtain ⟨t, _, rfl⟩ := List.mem_map.mp hy
    exact h (List.append_inj_left' e rfl)
theorem wq_nd (many : Nat) (q : Row) : (wq many q).Nodup := by
  unfold wq
  generalize q.2.toNat = n
  induction n with
  | zero => exact List.nodup_cons.mpr ⟨List.not_mem_nil, List.nodup_nil⟩
  | succ n ih =>
    rw [List.replicate_succ', ways_snoc]
    refine wstep_nd n (fun w hw => ?_) ih List.nodup_range
    rw [(ways_mem.mp hw).1, List.length_replicate]
theorem wq_mem {many : Nat} {q : Row} {ss : List Nat} : ss ∈ wq many q ↔ ss.length = q.2.toNat ∧ ∀ s ∈ ss, s < many := by
  unfold wq
  rw [ways_mem, List.length_replicate]
  constructor
  · rintro ⟨h1, h2⟩
    refine ⟨h1, fun s hs => ?_⟩
    obtain ⟨i, hi, e⟩ := List.mem_iff_getElem.mp hs
    have := h2 i s (List.range many) (by rw [List.getElem?_eq_getElem hi, e]) (by rw [List.getElem?_replicate, if_pos (by omega)])
    exact List.mem_range.mp this
  · rintro ⟨h1, h2⟩
    refine ⟨h1, fun i s l hs hl => ?_⟩
    rw [List.getElem?_replicate] at hl
    split at hl
    · injection hl with hl
      rw [← hl]
      exact List.mem_range.mpr (h2 s (List.mem_of_getElem? hs))
    · cases hl
theorem ks_nd {rows : List Row} {many : Nat} (nd : (rows.map (·.1)).Nodup) : (ksOf rows many).Nodup := by
  unfold ksOf
  rw [List.nodup_iff_pairwise_ne, List.pairwise_flatMap]
  refine ⟨fun q hq => ?_, ?_⟩
  · rw [List.pairwise_map]
    exact (List.nodup_iff_pairwise_ne.mp (wq_nd many q)).imp fun h e => h (Prod.mk.inj e).2
  · have := (List.nodup_iff_pairwise_ne.mp nd)
    rw [List.pairwise_map] at this
    refine this.imp fun {a b} h x hx y hy e => ?_
    obtain ⟨s, _, rfl⟩ := List.mem_map.mp hx
    obtain ⟨t, _, rfl⟩ := List.mem_map.mp hy
    exact h (Prod.mk.inj e).1
theorem ks_step {rows : List Row} {many i j : Nat} {q : Row} {ss : List Nat} (hq : rows[i]? = some q) (hs : (wq many q)[j]? = some ss) : ∃ r, ksOf (rows.take i) many ++ ((wq many q).take j).map (fun s => (q.1, s)) ++ (q.1, ss) :: r = ksOf rows many := by
  have e1 : rows = rows.take i ++ q :: rows.drop (i + 1) := by
    have hi := (List.getElem?_eq_some_iff.mp hq).1
    have he : rows[i] = q := by rw [List.getElem?_eq_getElem hi] at hq; exact Option.some.inj hq
    rw [← he, List.getElem_cons_drop, List.take_append_drop]
  have e2 : wq many q = (wq many q).take j ++ ss :: (wq many q).drop (j + 1) := by
    have hi := (List.getElem?_eq_some_iff.mp hs).1
    have he : (wq many q)[j] = ss := by rw [List.getElem?_eq_getElem hi] at hs; exact Option.some.inj hs
    rw [← he, List.getElem_cons_drop, List.take_append_drop]
  refine ⟨((wq many q).drop (j + 1)).map (fun s => (q.1, s)) ++ ksOf (rows.drop (i + 1)) many, ?_⟩
  have e3 : ksOf rows many = ksOf (rows.take i) many ++ ((wq many q).map (fun s => (q.1, s)) ++ ksOf (rows.drop (i + 1)) many) := by
    conv => lhs; rw [e1]
    unfold ksOf
    rw [List.flatMap_append, List.flatMap_cons]
  rw [e3]
  conv => rhs; rw [e2]
  rw [List.map_append, List.map_cons]
  simp only [List.append_assoc, List.cons_append]
theorem rkv_none {es : List REnt} {p : Str × List Nat} (h : p ∉ es.map ek) : valV (es.map rkv) (nkR p) = none := by
  unfold valV
  rw [Option.map_eq_none_iff, List.find?_eq_none]
  intro x hx e
  obtain ⟨y, hy, rfl⟩ := List.mem_map.mp hx
  have e := of_decide_eq_true e
  exact h (List.mem_map.mpr ⟨y, hy, nkR_inj e⟩)
theorem rkv_some {es : List REnt} {e : REnt} (nd : (es.map ek).Nodup) (h : e ∈ es) : valV (es.map rkv) (nkR (ek e)) = some (.int ((e.2.2 : Nat) : Int)) := by
  induction es with
  | nil => cases h
  | cons y es ih =>
    rw [List.map_cons] at nd
    obtain ⟨n1, n2⟩ := List.nodup_cons.mp nd
    rw [List.map_cons]
    rcases List.mem_cons.mp h with rfl | h
    · exact valV_pos rfl
    · rw [valV_neg (fun q => n1 (List.mem_map.mpr ⟨e, h, (nkR_inj q).symm⟩))]
      exact ih n2 h
def RwAt (H : Hp) (us : List Addr) (rs : List REnt) : Prop := us.length = rs.length ∧ ∀ (i : Nat) (u : Addr) (e : REnt), us[i]? = some u → rs[i]? = some e → ∃ b, H u = some (.tup [.str e.1, .ref b, .int ((e.2.2 : Nat) : Int)]) ∧ H b = some (.tup (nI e.2.1))
theorem RwAt.keep {H H' : Hp} {us : List Addr} {rs : List REnt} (x : RwAt H us rs) (k : ∀ t ys, H t = some (.tup ys) → H' t = some (.tup ys)) : RwAt H' us rs := ⟨x.1, fun i u e h1 h2 => by
  obtain ⟨b, h3, h4⟩ := x.2 i u e h1 h2
  exact ⟨b, k _ _ h3, k _ _ h4⟩⟩
theorem RwAt.nil {H : Hp} : RwAt H [] [] := ⟨rfl, fun i u e h => by simp at h⟩
theorem RwAt.snoc {H : Hp} {us : List Addr} {rs : List REnt} {u b : Addr} {e : REnt} (x : RwAt H us rs) (h1 : H u = some (.tup [.str e.1, .ref b, .int ((e.2.2 : Nat) : Int)])) (h2 : H b = some (.tup (nI e.2.1))) : RwAt H (us ++ [u]) (rs ++ [e]) := by
  refine ⟨by rw [List.length_append, List.length_append, x.1]; rfl, fun i y z a c => ?_⟩
  by_cases hi : i < us.length
  · rw [List.getElem?_append_left hi] at a
    rw [List.getElem?_append_left (by rw [← x.1]; exact hi)] at c
    exact x.2 i y z a c
  · have hl := (List.getElem?_eq_some_iff.mp a).1
    rw [List.length_append] at hl
    have : ([u] : List Addr).length = 1 := rfl
    have ei : i = us.length := by omega
    subst ei
    rw [List.getElem?_append_right (Nat.le_refl _), Nat.sub_self] at a
    rw [List.getElem?_append_right (by rw [x.1]; exact Nat.le_refl _), x.1, Nat.sub_self] at c
    cases a
    cases c
    exact ⟨b, h1, h2⟩
theorem RwAt.reverse {H : Hp} {us : List Addr} {rs : List REnt} (x : RwAt H us rs) : RwAt H us.reverse rs.reverse := by
  refine ⟨by rw [List.length_reverse, List.length_reverse, x.1], fun i u e a b => ?_⟩
  have hi := (List.getElem?_eq_some_iff.mp a).1
  rw [List.length_reverse] at hi
  rw [List.getElem?_reverse hi] at a
  rw [List.getElem?_reverse (by rw [← x.1]; exact hi), ← x.1] at b
  exact x.2 _ u e a b
theorem mem_ks {rows : List Row} {many : Nat} {z : Str} {ss : List Nat} : (z, ss) ∈ ksOf rows many ↔ ∃ q ∈ rows, q.1 = z ∧ ss.length = q.2.toNat ∧ ∀ s ∈ ss, s < many := by
  unfold ksOf
  rw [List.mem_flatMap]
  constructor
  · rintro ⟨q, hq, h⟩
    obtain ⟨t, ht, e⟩ := List.mem_map.mp h
    obtain ⟨e1, e2⟩ := Prod.mk.inj e
    obtain ⟨h1, h2⟩ := wq_mem.mp ht
    rw [← e2]
    exact ⟨q, hq, e1, h1, h2⟩
  · rintro ⟨q, hq, rfl, h1, h2⟩
    exact ⟨q, hq, List.mem_map.mpr ⟨ss, wq_mem.mpr ⟨h1, h2⟩, rfl⟩⟩
theorem wR_of {rows : List Row} {m : Int} (R : ROk m rows) {q : Row} (h : q ∈ rows) : wR rows q.1 = q.2.toNat := by
  have := wR_row R h
  omega
theorem ks_has {rows : List Row} {m : Int} (R : ROk m rows) {many : Nat} {z : Str} {ss : List Nat} : (z, ss) ∈ ksOf rows many ↔ HasN rows z ∧ ss.length = wR rows z ∧ ∀ s ∈ ss, s < many := by
  rw [mem_ks]
  constructor
  · rintro ⟨q, hq, rfl, h1, h2⟩
    exact ⟨⟨q, hq, rfl⟩, by rw [wR_of R hq]; exact h1, h2⟩
  · rintro ⟨⟨q, hq, rfl⟩, h1, h2⟩
    exact ⟨q, hq, rfl, by rw [wR_of R hq] at h1; exact h1, h2⟩
def tkey (ss : List Nat) : List Key := ss.map fun i => .inl ((i : Nat) : Int)
theorem tkey_inj {a b : List Nat} (h : tkey a = tkey b) : a = b := inl_inj h
theorem tkey_V (ss : List Nat) : (tkey ss).map kV = nI ss := (nI_key ss).symm
def cz (n : Str) (es : List REnt) : List (List Key × V) := (es.filter fun e => decide (e.1 = n)).map fun e => (tkey e.2.1, .int ((e.2.2 : Nat) : Int))
theorem cz_snoc (n : Str) (es : List REnt) (e : REnt) : cz n (es ++ [e]) = cz n es ++ if e.1 = n then [(tkey e.2.1, .int ((e.2.2 : Nat) : Int))] else [] := by
  unfold cz
  rw [List.filter_append, List.map_append]
  congr 1
  by_cases h : e.1 = n
  · rw [if_pos h, List.filter_cons_of_pos (by rw [h]; simp)]
    rfl
  · rw [if_neg h, List.filter_cons_of_neg (by simp [h])]
    rfl
theorem cz_val (n : Str) (ss : List Nat) (es : List REnt) : valV (cz n es) (tkey ss) = (es.find? fun e => decide (ek e = (n, ss))).map fun e => V.int ((e.2.2 : Nat) : Int) := by
  induction es with
  | nil => rfl
  | cons e es ih =>
    unfold cz at ih ⊢
    by_cases h : e.1 = n
    · rw [List.filter_cons_of_pos (by rw [h]; simp), List.map_cons]
      by_cases h2 : e.2.1 = ss
      · rw [valV_pos (by show tkey e.2.1 = _; rw [h2]), List.find?_cons_of_pos (by unfold ek; rw [h, h2]; simp)]
        rfl
      · rw [valV_neg (fun q => h2 (tkey_inj q)), ih, List.find?_cons_of_neg (by show ¬ decide (ek e = (n, ss)) = true; exact fun q => h2 (Prod.mk.inj (of_decide_eq_true q)).2)]
    · rw [List.filter_cons_of_neg (by simp [h]), ih, List.find?_cons_of_neg (by show ¬ decide (ek e = (n, ss)) = true; exact fun q => h (Prod.mk.inj (of_decide_eq_true q)).1)]
structure CzAt (H : Hp) (d : Addr) (ns : List Str) (ds : List Addr) (es : List REnt) : Prop where
  at_ : H d = some (.dK (tnL ns ds))
  len : ds.length = ns.length
  nd : ds.Nodup
  nin : d ∉ ds
  row : ∀ (i : Nat) (n : Str) (a : Addr), ns[i]? = some n → ds[i]? = some a → H a = some (.dT (cz n es))
theorem CzAt.same {H H' : Hp} {d : Addr} {ns : List Str} {ds : List Addr} {es : List REnt} (x : CzAt H d ns ds es) (s : Same H H') : CzAt H' d ns ds es := ⟨s _ _ x.at_, x.len, x.nd, x.nin, fun i n a h1 h2 => s _ _ (x.row i n a h1 h2)⟩
theorem CzAt.add {H : Hp} {D p : Addr} {ns : List Str} {ds : List Addr} {n : Str} (x : CzAt H D ns ds []) (hp : H p = none) (hn : n ∉ ns) : CzAt (upd (upd H p (.dT [])) D (.dK (putK (tnL ns ds) (.inr n) (.ref p)))) D (ns ++ [n]) (ds ++ [p]) [] := by
  have npD : p ≠ D := fun e => by rw [e, x.at_] at hp; cases hp
  have npd : ∀ a ∈ ds, a ≠ p := fun a ha e => by
    obtain ⟨i, hi⟩ := List.mem_iff_getElem?.mp ha
    have l := (List.getElem?_eq_some_iff.mp hi).1
    have l : i < ns.length := by rw [← x.len]; exact l
    have q := x.row i ns[i] a (List.getElem?_eq_getElem l) hi
    rw [e, hp] at q
    cases q
  have fresh : valV (tnL ns ds) (.inr n) = none := valV_none fun kv hk e => by
    obtain ⟨q, hq, rfl⟩ := List.mem_map.mp hk
    have e : q.1 = n := inr_iff.mp e
    exact hn (e ▸ (List.of_mem_zip hq).1)
  refine ⟨?_, ?_, ?_, ?_, ?_⟩
  · rw [upd_same, putK_new _ fresh]
    unfold tnL
    rw [List.zip_append x.len.symm, List.map_append]
    rfl
  · rw [List.length_append, List.length_append, x.len]
    rfl
  · exact List.nodup_append.mpr ⟨x.nd, by simp, fun a ha b hb => by
      rw [List.mem_singleton.mp hb]
      exact npd a ha⟩
  · intro h
    rcases List.mem_append.mp h with h | h
    · exact x.nin h
    · exact npD (List.mem_singleton.mp h).symm
  · intro i m a h1 h2
    by_cases c : i < ns.length
    · rw [List.getElem?_append_left c] at h1
      rw [List.getElem?_append_left (by rw [x.len]; exact c)] at h2
      have q1 := x.row i m a h1 h2
      have ha := List.mem_of_getElem? h2
      have naD : a ≠ D := fun e => x.nin (by rw [← e]; exact ha)
      rw [upd_ne naD, upd_ne (npd a ha)]
      exact q1
    · rw [List.getElem?_append_right (by omega)] at h1
      rw [List.getElem?_append_right (by rw [x.len]; omega), x.len] at h2
      have e0 : i - ns.length = 0 := by
        have := (List.getElem?_eq_some_iff.mp h1).1
        have l1 : ([n] : List Str).length = 1 := rfl
        omega
      rw [e0] at h1 h2
      cases h1
      cases h2
      rw [upd_ne npD, upd_same]
      rfl
theorem CzAt.put {H : Hp} {D a : Addr} {ns : List Str} {ds : List Addr} {es : List REnt} {e : REnt} (x : CzAt H D ns ds es) (nd : ns.Nodup) (fr : ek e ∉ es.map ek) {i : Nat} (h1 : ns[i]? = some e.1) (h2 : ds[i]? = some a) :
    CzAt (upd H a (.dT (putK (cz e.1 es) (tkey e.2.1) (.int ((e.2.2 : Nat) : Int))))) D ns ds (es ++ [e]) := by
  have nDa : D ≠ a := fun q => x.nin (q ▸ List.mem_of_getElem? h2)
  have hv : valV (cz e.1 es) (tkey e.2.1) = none := by
    rw [cz_val, Option.map_eq_none_iff, List.find?_eq_none]
    intro q hq hk
    exact fr (List.mem_map.mpr ⟨q, hq, of_decide_eq_true hk⟩)
  refine ⟨by rw [upd_ne nDa]; exact x.at_, x.len, x.nd, x.nin, fun j m b g1 g2 => ?_⟩
  by_cases c : j = i
  · subst c
    rw [h1] at g1
    cases g1
    rw [h2] at g2
    cases g2
    rw [upd_same, putK_new _ hv, cz_snoc, if_pos rfl]
  · have nb : b ≠ a := fun q => by
      have l1 := (List.getElem?_eq_some_iff.mp g2)
      have l2 := (List.getElem?_eq_some_iff.mp h2)
      exact c ((List.getElem_inj x.nd).mp (l1.2.trans (q.trans l2.2.symm)))
    have nm : e.1 ≠ m := fun q => c (nd_at nd (q ▸ g1) h1)
    rw [upd_ne nb, cz_snoc, if_neg nm, List.append_nil]
    exact x.row j m b g1 g2
end Sh
end
section
set_option Elab.async false
set_option linter.all false
set_option maxRecDepth 100000
set_option maxHeartbeats 4000000
namespace Sh
open PySem PySem.Spec PyProof.Rows L2
open C8 (pss_cut tCut)
open Evl (ixN_nat)
/-- a box: three numbers -/
def BxT (H : Hp) (x : Addr) : Prop := ∃ a b c : Int, H x = some (.lst [.int a, .int b, .int c])
theorem BxT.same {H H' : Hp} {x : Addr} (h : BxT H x) (s : Same H H') : BxT H' x := by
  obtain ⟨a, b, c, h⟩ := h
  exact ⟨a, b, c, s _ _ h⟩
theorem BxT.ne {H : Hp} {x p : Addr} (h : BxT H x) (hp : H p = none) : p ≠ x := fun e => by
  obtain ⟨a, b, c, h⟩ := h
  rw [e, h] at hp
  cases hp
theorem BxT.upd_ne {H : Hp} {x p : Addr} {o : HO} (h : BxT H x) (n : p ≠ x) : BxT (upd H p o) x := by
  obtain ⟨a, b, c, h⟩ := h
  exact ⟨a, b, c, by rw [L2.upd_ne (Ne.symm n)]; exact h⟩
theorem BxT.new {H : Hp} {x p : Addr} {o : HO} (h : BxT H x) (hp : H p = none) : BxT (upd H p o) x := h.upd_ne (h.ne hp)
def spTake : Sp := fun vs H Q _ => ∃ (x : Addr) (m : Int), vs = [.ref x, .int m] ∧ BxT H x ∧ 0 < m ∧ m < 1000000000 ∧ ∀ (H' : Hp) (e : Nat), Kp x H H' → BxT H' x → (e : Int) < m → Q (.int (e : Nat)) H'
abbrev N_law_box : List Str := ["script", "k"]
theorem sc_law_box : FnScope N_law_box ["script", "k"] (defScope s_law_box) := ⟨rfl, rfl, rfl, by decide +kernel, rfl, by decide +kernel, by decide +kernel⟩
abbrev N_law_take : List Str := ["box", "many", "digit", "mixed"]
theorem sc_law_take : FnScope N_law_take ["box", "many"] (defScope s_law_take) := ⟨rfl, rfl, rfl, by decide +kernel, rfl, by decide +kernel, by decide +kernel⟩
section
variable {P : Program} {w : World} {K : PySem.W.Frag} {mg : Str → Option Value} {base : Heap}
theorem ok_take (T : Bl mg) (D : Def0 K mg "_law_take" s_law_take) : DefOk P w K mg base CX0 1 "_law_take" spTake := by
  refine D.ok sc_law_take (fun vs H Q E h => ?_) (fun _ _ _ _ _ _ us hl => match us, hl with | [_, _], _ => rfl) (fun f cdv A outer s H vs Q E hr h => ?_)
  · obtain ⟨x, m, rfl, _⟩ := h
    rfl
  · obtain ⟨x, m, rfl, ⟨a, b, c, hx⟩, m0, m1, k⟩ := h
    have k : ∀ (H' : Hp) (e : Int), Kp x H H' → BxT H' x → 0 ≤ e → e < m → Q (.int e) H' := fun H' e h1 h2 h3 h4 => by
      have := k H' e.toNat h1 h2 (by omega)
      rwa [Int.toNat_of_nonneg h3] at this
    refine ⟨_, (pss_cons (ps_asg (pe_op op_add (pe_ix ix_list (pv 0) pe_int (fun _ _ => rfl)) pe_int) (pg_sub (pv 0) pe_int set_list))
      (pss_cons (ps_if (pt_cmpR op_ge (pe_ix ix_list (pv 0) pe_int (fun _ _ => rfl)) (pe_op op_pow pe_int pe_int) (nomark _))
        (pss_cons (ps_set (i := 2) sc_law_take.nd rfl (Or.inl rfl) (pe_op op_mod (pe_callTy call_int1 (by rfl) T.b_int (by decide +kernel) (pa_cons (pe_ix ix_list (pv 0) pe_int (fun _ _ => rfl)) pa_nil)) (pv 1)))
        (pss_cons (ps_asg (pe_op op_fdiv (pe_callTy call_int1 (by rfl) T.b_int (by decide +kernel) (pa_cons (pe_ix ix_list (pv 0) pe_int (fun _ _ => rfl)) pa_nil)) (pv 1)) (pg_sub (pv 0) pe_int set_list))
        (pss_one (ps_ret (pv 2)))))
        pss_nil)
      (pss_cons (ps_set (i := 3) sc_law_take.nd rfl (Or.inl rfl) (pe_op op_mod (pe_callTy call_int1 (by rfl) T.b_int (by decide +kernel) (pa_cons (pe_op op_add (pe_op op_add (pe_op op_add (pe_op op_mul (pe_ix ix_list (pv 0) pe_int (fun _ _ => rfl)) pe_int) (pe_op op_mul (pe_ix ix_list (pv 0) pe_int (fun _ _ => rfl)) pe_int)) (pe_op op_mul (pe_ix ix_list (pv 0) pe_int (fun _ _ => rfl)) pe_int)) pe_int) pa_nil)) pe_int))
      (pss_cons (ps_set (i := 3) sc_law_take.nd rfl (Or.inl rfl) (pe_op op_mod (pe_callTy call_int1 (by rfl) T.b_int (by decide +kernel) (pa_cons (pe_op op_add (pe_op op_mul (pv 3) (pv 3)) (pe_op op_mul (pe_ix ix_list (pv 0) pe_int (fun _ _ => rfl)) pe_int)) pa_nil)) pe_int))
      (pss_cons (ps_set (i := 3) sc_law_take.nd rfl (Or.inl rfl) (pe_op op_mod (pe_callTy call_int1 (by rfl) T.b_int (by decide +kernel) (pa_cons (pe_op op_add (pe_op op_mul (pv 3) (pv 3)) (pe_op op_mul (pe_ix ix_list (pv 0) pe_int (fun _ _ => rfl)) pe_int)) pa_nil)) pe_int))
      (pss_one (ps_ret (pe_op op_mod (pe_callTy call_int1 (by rfl) T.b_int (by decide +kernel) (pa_cons (pe_op op_fdiv (pv 3) pe_int) pa_nil)) (pv 1))))))))), ?_⟩
    refine ⟨_, rfl, x, _, _, _, rfl, rfl, SqL.of hx, atI_nat (j := 1) rfl, _, _, rfl, rfl, _, rfl, x, _, _, 1, rfl, rfl, hx, ixN_nat (by show 1 < 3; decide), ?_⟩
    have k1 : Kp x H (upd H x (.lst ([V.int a, V.int b, V.int c].set 1 (.int (b + 1))))) := (Kp.refl x H).upd
    have h1 : (upd H x (.lst ([V.int a, V.int b, V.int c].set 1 (.int (b + 1))))) x = some (.lst [.int a, .int (b + 1), .int c]) := upd_same
    generalize upd H x (.lst ([V.int a, V.int b, V.int c].set 1 (.int (b + 1)))) = H1 at k1 h1
    refine ⟨_, rfl, x, _, _, _, rfl, rfl, SqL.of h1, atI_nat (j := 0) rfl, _, _, rfl, rfl, ⟨by decide, by decide, by decide⟩, _, _, rfl, rfl, _, rfl, ite2 (fun _ => ?_) (fun _ => ?_)⟩
    · refine ⟨_, rfl, x, _, _, _, rfl, rfl, SqL.of h1, atI_nat (j := 0) rfl, .inl ⟨_, rfl, ?_⟩⟩
      refine ⟨_, rfl, _, _, rfl, rfl, by omega, ?_⟩
      refine ⟨_, rfl, x, _, _, _, rfl, rfl, SqL.of h1, atI_nat (j := 0) rfl, .inl ⟨_, rfl, ?_⟩⟩
      refine ⟨_, rfl, _, _, rfl, rfl, ⟨by omega, by omega⟩, _, rfl, x, _, _, 0, rfl, rfl, h1, ixN_nat (by show 0 < 3; decide), ?_⟩
      refine ⟨_, rfl, ?_⟩
      exact k _ _ k1.upd ⟨_, _, _, upd_same⟩ (Int.emod_nonneg _ (by omega)) (Int.emod_lt_of_pos _ m0)
    · refine ⟨_, rfl, x, _, _, _, rfl, rfl, SqL.of h1, atI_nat (j := 0) rfl, _, _, rfl, rfl, .inr ⟨by decide, by decide⟩, ?_⟩
      refine ⟨_, rfl, x, _, _, _, rfl, rfl, SqL.of h1, atI_nat (j := 1) rfl, _, _, rfl, rfl, .inr ⟨by decide, by decide⟩, _, _, rfl, rfl, ?_⟩
      refine ⟨_, rfl, x, _, _, _, rfl, rfl, SqL.of h1, atI_nat (j := 2) rfl, _, _, rfl, rfl, .inr ⟨by decide, by decide⟩, _, _, rfl, rfl, _, _, rfl, rfl, .inl ⟨_, rfl, _, _, rfl, rfl, by show (0 : Int) < 2147483647; decide, ?_⟩⟩
      generalize e1 : (a * 48271 + (b + 1) * 69621 + c * 1009 + 4285) % 2147483647 = z1
      have z10 : 0 ≤ z1 := by rw [← e1]; exact Int.emod_nonneg _ (by decide)
      have z11 : z1 < 2147483647 := by rw [← e1]; exact Int.emod_lt_of_pos _ (by decide)
      refine ⟨_, rfl, _, rfl, _, _, rfl, rfl, .inr ⟨by omega, by omega⟩, ?_⟩
      refine ⟨_, rfl, x, _, _, _, rfl, rfl, SqL.of h1, atI_nat (j := 1) rfl, _, _, rfl, rfl, .inr ⟨by decide, by decide⟩, _, _, rfl, rfl, .inl ⟨_, rfl, _, _, rfl, rfl, by show (0 : Int) < 2147483629; decide, ?_⟩⟩
      generalize e2 : (z1 * z1 + (b + 1) * 16807) % 2147483629 = z2
      have z20 : 0 ≤ z2 := by rw [← e2]; exact Int.emod_nonneg _ (by decide)
      have z21 : z2 < 2147483629 := by rw [← e2]; exact Int.emod_lt_of_pos _ (by decide)
      refine ⟨_, rfl, _, rfl, _, _, rfl, rfl, .inr ⟨by omega, by omega⟩, ?_⟩
      refine ⟨_, rfl, x, _, _, _, rfl, rfl, SqL.of h1, atI_nat (j := 1) rfl, _, _, rfl, rfl, .inr ⟨by decide, by decide⟩, _, _, rfl, rfl, .inl ⟨_, rfl, _, _, rfl, rfl, by show (0 : Int) < 2147483587; decide, ?_⟩⟩
      refine ⟨_, rfl, _, _, rfl, rfl, ⟨by decide, by decide⟩, .inl ⟨_, rfl, ?_⟩⟩
      refine ⟨_, rfl, _, _, rfl, rfl, by omega, ?_⟩
      exact k _ _ k1 ⟨_, _, _, h1⟩ (Int.emod_nonneg _ (by omega)) (Int.emod_lt_of_pos _ m0)
end
end Sh
end
section
set_option Elab.async false
set_option linter.all false
set_option maxRecDepth 100000
set_option maxHeartbeats 4000000
namespace Sh
open PySem PySem.Spec PyProof.Rows L2
open TL (tl joinL tl_join join_eq tl_append)
open C8 (pss_cut tCut)
open Evl (ixN_nat)
theorem app_sg (x : Str) (c : Nat) : (x ++ sg c).cps.toList = x.cps.toList ++ [c] := tl_append x (sg c)
theorem app_tl (x y : Str) : (x ++ y).cps.toList = x.cps.toList ++ y.cps.toList := tl_append x y
theorem size_tl (x : Str) : x.cps.size = x.cps.toList.length := (Array.length_toList).symm
theorem pickI {l : List Int} (Pz : Int → Prop) (h : ∀ z ∈ l, Pz z) {e : Nat} (he : e < l.length) : ∃ z : Int, (l.map V.int)[e]? = some (.int z) ∧ Pz z :=
  ⟨l[e], by rw [List.getElem?_map, List.getElem?_eq_getElem he]; rfl, h _ (List.getElem_mem he)⟩
theorem Kp.freeT {x p : Addr} {H H' : Hp} (k : Kp x H H') (b : BxT H' x) (h : H' p = none) : H p = none := k.free_of h (b.ne h)
def spBed6 : Sp := fun vs H Q _ => ∃ (x : Addr) (top : Int), vs = [.ref x, .int top] ∧ BxT H x ∧ (top = 3 ∨ top = 1) ∧ ∀ (H' : Hp) (r : Addr) (ts : List Addr) (rows : List Row), Kp x H H' → BxT H' x → H' r = some (.tup (ts.map V.ref)) → TupsAt H' ts rows → ROk 4 rows → (∀ q ∈ rows, q.2 ≤ top) → Q (.ref r) H'
/-- letter of the name of kind k at a place -/
def ltr (s d : Int) (k : Nat) : Nat := 97 + ((s + (k : Int) * d) % 26).toNat
theorem ltr_lo (s d : Int) (k : Nat) : 97 ≤ ltr s d k ∧ ltr s d k ≤ 122 := by
  unfold ltr
  have := Int.emod_nonneg (s + (k : Int) * d) (show (26 : Int) ≠ 0 by decide)
  have := Int.emod_lt_of_pos (s + (k : Int) * d) (show (0 : Int) < 26 by decide)
  omega
def odd6 : List Int := [1, 3, 5, 7, 9, 11, 15, 17, 19, 21, 23, 25]
theorem ltr_inj {s d : Int} (hd : d ∈ odd6) {j k : Nat} (hj : j < 4) (hk : k < 4) (h : ltr s d j = ltr s d k) : j = k := by
  unfold ltr at h
  have h1 := Int.emod_nonneg (s + (j : Int) * d) (show (26 : Int) ≠ 0 by decide)
  have h2 := Int.emod_nonneg (s + (k : Int) * d) (show (26 : Int) ≠ 0 by decide)
  have h3 : (s + (j : Int) * d) % 26 = (s + (k : Int) * d) % 26 := by omega
  have h4 : ((j : Int) * d - (k : Int) * d) % 26 = 0 := by omega
  unfold odd6 at hd
  simp only [List.mem_cons, List.not_mem_nil, or_false] at hd
  rcases (show j = 0 ∨ j = 1 ∨ j = 2 ∨ j = 3 by omega) with rfl | rfl | rfl | rfl <;> rcases (show k = 0 ∨ k = 1 ∨ k = 2 ∨ k = 3 by omega) with rfl | rfl | rfl | rfl <;>
    first
    | rfl
    | (exfalso; rcases hd with rfl | rfl | rfl | rfl | rfl | rfl | rfl | rfl | rfl | rfl | rfl | rfl <;> omega)
/-- a name of kind k: its letters by the grid -/
def NmAt (ss ds : List Int) (n k : Nat) (z : Str) : Prop := z.cps.size = n ∧ ∀ (i : Nat) (c : Nat), z.cps.toList[i]? = some c → ∃ s d, ss[i]? = some s ∧ ds[i]? = some d ∧ c = ltr s d k
abbrev N_law_bed : List Str := ["box", "top", "letters", "many", "bound", "sizes", "k", "size", "spot", "alike", "starts", "strides", "stride", "kinds", "name", "length", "place"]
theorem sc_law_bed : FnScope N_law_bed ["box", "top"] (defScope s_law_bed) := ⟨rfl, rfl, rfl, by decide +kernel, rfl, by decide +kernel, by decide +kernel⟩
section
variable {P : Program} {w : World} {K : PySem.W.Frag} {mg : Str → Option Value} {base : Heap}
theorem ok_bed6 (T : Bl mg) (b_min : mg "min" = none) (c_law_take : DefOk P w K mg base CX0 1 "_law_take" spTake) (D : Def0 K mg "_law_bed" s_law_bed) : DefOk P w K mg base CX0 2 "_law_bed" spBed6 := by
  refine D.ok sc_law_bed (fun vs H Q E h => ?_) (fun _ _ _ _ _ _ us hl => match us, hl with | [_, _], _ => rfl) (fun f cdv A outer s' H vs Q E hr h => ?_)
  · obtain ⟨x, top, rfl, _⟩ := h
    rfl
  · obtain ⟨x, top, rfl, hx, htop, key⟩ := h
    refine ⟨_, (pss_cons (ps_set (i := 2) sc_law_bed.nd rfl (Or.inl rfl) pe_str)
      (pss_cons (ps_set (i := 3) sc_law_bed.nd rfl (Or.inl rfl) (pe_ix ix_list (pe_lst (pa_cons pe_int (pa_cons pe_int (pa_cons pe_int (pa_cons pe_int (pa_cons pe_int (pa_cons pe_int (pa_cons pe_int (pa_cons pe_int pa_nil))))))))) (pe_d c_law_take (hr.mono (by decide)) pass0 (pa_cons (pv 0) (pa_cons pe_int pa_nil))) (fun _ _ => rfl)))
      (pss_cons (ps_set (i := 4) sc_law_bed.nd rfl (Or.inl rfl) (pe_d c_law_take (hr.mono (by decide)) pass0 (pa_cons (pv 0) (pa_cons (pv 3) pa_nil))))
      (pss_cons (ps_set (i := 5) sc_law_bed.nd rfl (Or.inl rfl) (pe_lst pa_nil))
      (pss_cons (ps_for PassesOwn.never rfl (pi_range1 (by rfl) T.b_range (pa_cons (pv 3) pa_nil)) (pg_name (i := 6) sc_law_bed.nd rfl (Or.inl rfl))
        (pss_cons (ps_set (i := 7) sc_law_bed.nd rfl (Or.inl rfl) (pe_ix ix_list (pe_lst (pa_cons pe_int (pa_cons pe_int (pa_cons pe_int (pa_cons pe_int (pa_cons pe_int (pa_cons pe_int (pa_cons pe_int (pa_cons pe_int pa_nil))))))))) (pe_d c_law_take (hr.mono (by decide)) pass0 (pa_cons (pv 0) (pa_cons pe_int pa_nil))) (fun _ _ => rfl)))
        (pss_cut (ps_if (pt_cmpR op_eq (pv 6) (pv 4) (nomark _))
          (pss_one (ps_set (i := 7) sc_law_bed.nd rfl (Or.inl rfl) pe_int))
          pss_nil)
        (pss_cut (ps_if (PW.pt (pw_and (pt_cmpR op_eq (pv 7) pe_int (nomark _)) (pw_and1 (pt_cmpR op_in_seq pe_int (pv 5) (by rfl)))))
          (pss_one (ps_set (i := 7) sc_law_bed.nd rfl (Or.inl rfl) pe_int))
          pss_nil)
        (pss_one (ps_expr (pe_bm PySem.F.plainAttrs_list PySem.F.slot_list_append PySem.F.type_list_append mt_append (pv 5) (pa_cons (pe_callB (call_min2 rfl) (by rfl) b_min (by decide +kernel) (pa_cons (pv 7) (pa_cons (pv 1) pa_nil))) pa_nil))))))))
      (pss_cons (ps_set (i := 8) sc_law_bed.nd rfl (Or.inl rfl) (pe_d c_law_take (hr.mono (by decide)) pass0 (pa_cons (pv 0) (pa_cons pe_int pa_nil))))
      (pss_cons (ps_set (i := 9) sc_law_bed.nd rfl (Or.inl rfl) (pe_d c_law_take (hr.mono (by decide)) pass0 (pa_cons (pv 0) (pa_cons pe_int pa_nil))))
      (pss_cons (ps_set (i := 10) sc_law_bed.nd rfl (Or.inl rfl) (pe_lst pa_nil))
      (pss_cons (ps_set (i := 11) sc_law_bed.nd rfl (Or.inl rfl) (pe_lst pa_nil))
      (pss_cons (ps_for PassesOwn.never rfl (pi_range1 (by rfl) T.b_range (pa_cons pe_int pa_nil)) (pg_name (i := 6) sc_law_bed.nd rfl (Or.inl rfl))
        (pss_cons (ps_expr (pe_bm PySem.F.plainAttrs_list PySem.F.slot_list_append PySem.F.type_list_append mt_append (pv 10) (pa_cons (pe_d c_law_take (hr.mono (by decide)) pass0 (pa_cons (pv 0) (pa_cons pe_int pa_nil))) pa_nil)))
        (pss_cons (ps_set (i := 12) sc_law_bed.nd rfl (Or.inl rfl) (pe_d c_law_take (hr.mono (by decide)) pass0 (pa_cons (pv 0) (pa_cons pe_int pa_nil))))
        (pss_cut (ps_if (pt_cmpR op_eq (pv 6) (pv 8) (nomark _))
          (pss_one (ps_set (i := 12) sc_law_bed.nd rfl (Or.inl rfl) (pe_ix ix_list (pe_lst (pa_cons pe_int (pa_cons pe_int (pa_cons pe_int (pa_cons pe_int (pa_cons pe_int (pa_cons pe_int (pa_cons pe_int (pa_cons pe_int (pa_cons pe_int (pa_cons pe_int (pa_cons pe_int (pa_cons pe_int pa_nil))))))))))))) (pv 12) (fun _ _ => rfl))))
          (pss_one (ps_if (pt_cmpR op_eq (pv 9) pe_int (nomark _))
            (pss_one (ps_set (i := 12) sc_law_bed.nd rfl (Or.inl rfl) pe_int))
            pss_nil)))
        (pss_one (ps_expr (pe_bm PySem.F.plainAttrs_list PySem.F.slot_list_append PySem.F.type_list_append mt_append (pv 11) (pa_cons (pv 12) pa_nil))))))))
      (pss_cons (ps_set (i := 13) sc_law_bed.nd rfl (Or.inl rfl) (pe_lst pa_nil))
      (pss_cons (ps_for PassesOwn.never rfl (pi_range1 (by rfl) T.b_range (pa_cons (pv 3) pa_nil)) (pg_name (i := 6) sc_law_bed.nd rfl (Or.inl rfl))
        (pss_cons (ps_set (i := 14) sc_law_bed.nd rfl (Or.inl rfl) pe_str)
        (pss_cons (ps_set (i := 15) sc_law_bed.nd rfl (Or.inl rfl) (pe_op op_add (pe_op op_add (pv 8) pe_int) (pe_d c_law_take (hr.mono (by decide)) pass0 (pa_cons (pv 0) (pa_cons (pe_op op_sub pe_int (pv 8)) pa_nil)))))
        (pss_cons (ps_for PassesOwn.never rfl (pi_range1 (by rfl) T.b_range (pa_cons (pv 15) pa_nil)) (pg_name (i := 16) sc_law_bed.nd rfl (Or.inl rfl))
          (pss_one (ps_set (i := 14) sc_law_bed.nd rfl (Or.inl rfl) (pe_op op_add_str (pv 14) (pe_ix ix_str (pv 2) (pe_op op_mod (pe_callTy call_int1 (by rfl) T.b_int (by decide +kernel) (pa_cons (pe_op op_add (pe_ix ix_list (pv 10) (pv 16) (fun _ _ => rfl)) (pe_op op_mul (pv 6) (pe_ix ix_list (pv 11) (pv 16) (fun _ _ => rfl)))) pa_nil)) pe_int) (fun _ _ => rfl))))))
        (pss_one (ps_expr (pe_bm PySem.F.plainAttrs_list PySem.F.slot_list_append PySem.F.type_list_append mt_append (pv 13) (pa_cons (pe_tup (pa_cons (pv 14) (pa_cons (pe_ix ix_list (pv 5) (pv 6) (fun _ _ => rfl)) pa_nil))) pa_nil))))))))
      (pss_one (ps_ret (pe_callTy call_tuple_of (by rfl) T.b_tuple (by decide +kernel) (pa_cons (pv 13) pa_nil)))))))))))))))), ?_⟩
    refine ⟨le_line (show 8 ≤ 10000000 by decide), fun l1 hl1 => ?_⟩
    have n1 := hx.ne hl1
    have s1 := (Same.refl H).upd_new (o := .lst [V.int 3, V.int 2, V.int 3, V.int 4, V.int 1, V.int 2, V.int 3, V.int 4]) hl1
    have e1 : (upd H l1 (.lst [V.int 3, V.int 2, V.int 3, V.int 4, V.int 1, V.int 2, V.int 3, V.int 4])) l1 = some (.lst (([3, 2, 3, 4, 1, 2, 3, 4] : List Int).map V.int)) := upd_same
    generalize upd H l1 (.lst [V.int 3, V.int 2, V.int 3, V.int 4, V.int 1, V.int 2, V.int 3, V.int 4]) = H1 at s1 e1
    refine ⟨_, rfl, x, 8, rfl, hx.same s1, by decide, by decide, fun H2 d k2 b2 d8 => ?_⟩
    obtain ⟨mi, hm, m1, m4⟩ := pickI (l := [3, 2, 3, 4, 1, 2, 3, 4]) (fun z => 1 ≤ z ∧ z ≤ 4) (by decide) (e := d) (by show d < 8; omega)
    refine ⟨l1, _, _, _, rfl, rfl, SqL.of (k2 _ _ e1 n1), at_ofG (j := d) rfl hm, ?_⟩
    obtain ⟨m, rfl⟩ := Int.eq_ofNat_of_zero_le (show 0 ≤ mi by omega)
    refine ⟨_, rfl, _, rfl, x, (m : Int), rfl, b2, by omega, by omega, fun H3 lo k3 b3 lo1 => ?_⟩
    have k03 := (Kp.same s1).trans (k2.trans k3)
    refine ⟨le_line (show 0 ≤ 10000000 by decide), fun S hS0 => ?_⟩
    have hS := k03.freeT b3 hS0
    have nS := b3.ne hS0
    have k04 := k03.upd_new (o := .lst []) hS0
    have b4 := b3.new (o := .lst []) hS0
    have e4 : (upd H3 S (.lst [])) S = some (.lst (([] : List Int).map V.int)) := upd_same
    generalize upd H3 S (.lst []) = H4 at k04 b4 e4
    refine ⟨_, rfl, _, rfl, by omega, by omega, ?_⟩
    rw [Int.toNat_natCast]
    refine for_range (n := m) (fun i σ H' => ∃ (x6 x7 : Option V) (ws : List Int), σ = [some (.ref x), some (.int top), some (.str "abcdefghijklmnopqrstuvwxyz"), some (.int (m : Nat)), some (.int (lo : Nat)), some (.ref S), x6, x7, none, none, none, none, none, none, none, none, none] ∧ Kp x H H' ∧ BxT H' x ∧ H' S = some (.lst (ws.map V.int)) ∧ ws.length = i ∧ (∀ z ∈ ws, 0 ≤ z ∧ z ≤ 3 ∧ z ≤ top) ∧ (lo < i → ws[lo]? = some 0))
      ⟨none, none, [], rfl, k04, b4, e4, rfl, (fun z h => nomatch h), fun h => by omega⟩ ?_ ?_
    · rintro i σ H5 hi ⟨x6, x7, ws, rfl, k5, b5, e5, lw, wok, wlo⟩
      refine ⟨le_line (show 8 ≤ 10000000 by decide), fun l2 hl2 => ?_⟩
      have n2 := b5.ne hl2
      have n2S : S ≠ l2 := ne_of_none e5 hl2
      have k56 := (Kp.refl x H5).upd_new (o := .lst [V.int 2, V.int 1, V.int 0, V.int 2, V.int 1, V.int 3, V.int 2, V.int 0]) hl2
      have e6 : (upd H5 l2 (.lst [V.int 2, V.int 1, V.int 0, V.int 2, V.int 1, V.int 3, V.int 2, V.int 0])) l2 = some (.lst (([2, 1, 0, 2, 1, 3, 2, 0] : List Int).map V.int)) := upd_same
      have b6 := b5.new (o := .lst [V.int 2, V.int 1, V.int 0, V.int 2, V.int 1, V.int 3, V.int 2, V.int 0]) hl2
      generalize upd H5 l2 (.lst [V.int 2, V.int 1, V.int 0, V.int 2, V.int 1, V.int 3, V.int 2, V.int 0]) = H6 at k56 e6 b6
      refine ⟨_, rfl, x, 8, rfl, b6, by decide, by decide, fun H7 d7 k7 b7 d78 => ?_⟩
      obtain ⟨wi, hwi, w0, w3⟩ := pickI (l := [2, 1, 0, 2, 1, 3, 2, 0]) (fun z => 0 ≤ z ∧ z ≤ 3) (by decide) (e := d7) (by show d7 < 8; omega)
      refine ⟨l2, _, _, _, rfl, rfl, SqL.of (k7 _ _ e6 n2), at_ofG (j := d7) rfl hwi, ?_⟩
      have k57 := k56.trans k7
      have e7 := k57 _ _ e5 nS
      have k07 := k5.trans k57
      refine ⟨fun σ H' => H' = H7 ∧ ∃ w' : Int, σ = [some (.ref x), some (.int top), some (.str "abcdefghijklmnopqrstuvwxyz"), some (.int (m : Nat)), some (.int (lo : Nat)), some (.ref S), some (.int (0 + ((i : Nat) : Int))), some (.int w'), none, none, none, none, none, none, none, none, none] ∧ 0 ≤ w' ∧ w' ≤ 3 ∧ (lo = i → w' = 0), ?_, ?_⟩
      · refine ⟨_, rfl, _, rfl, rfl, _, rfl, ite2 (fun _ => ⟨rfl, 0, rfl, by decide, by decide, fun _ => rfl⟩) (fun c => ⟨rfl, wi, rfl, w0, w3, fun e => absurd (decide_eq_true ?_) c⟩)⟩
        rw [e]
        congr 1
        omega
      rintro σ H7' ⟨e7', w', rfl, w0', w3', wl⟩
      obtain rfl : H7 = H7' := e7'.symm
      refine ⟨fun σ H' => H' = H7 ∧ ∃ w' : Int, σ = [some (.ref x), some (.int top), some (.str "abcdefghijklmnopqrstuvwxyz"), some (.int (m : Nat)), some (.int (lo : Nat)), some (.ref S), some (.int (0 + ((i : Nat) : Int))), some (.int w'), none, none, none, none, none, none, none, none, none] ∧ 0 ≤ w' ∧ w' ≤ 3 ∧ (lo = i → w' = 0), ?_, ?_⟩
      · refine ⟨_, rfl, rfl, _, rfl, ite2 (fun c3 => ?_) (fun _ => ⟨rfl, w', rfl, w0', w3', wl⟩)⟩
        have e3 : w' = 3 := V.int.inj (of_decide_eq_true c3)
        have fl : (ws.map V.int).all flatV = true := List.all_eq_true.mpr fun v hv => by
          obtain ⟨q, _, rfl⟩ := List.mem_map.mp hv
          rfl
        refine ⟨_, rfl, S, _, rfl, .inl (SqL.of e7), rfl, fl, _, rfl, ite2 (fun _ => ⟨rfl, 2, rfl, by decide, by decide, fun e => ?_⟩) (fun _ => ⟨rfl, w', rfl, w0', w3', wl⟩)⟩
        have := wl e
        omega
      rintro σ H7' ⟨e7', w2, rfl, w02, w32, wl2⟩
      obtain rfl : H7 = H7' := e7'.symm
      refine ⟨_, rfl, .inl ⟨rfl, _, SqL.of e7⟩, _, rfl, _, rfl, _, _, rfl, S, _, _, rfl, rfl, e7, by rw [List.length_map]; exact lt_line (by omega), ?_⟩
      refine ⟨_, _, ws ++ [if top < w2 then top else w2], rfl, k07.upd_own hS, b7.upd_ne (Ne.symm (Ne.symm nS)), by rw [upd_same, List.map_append]; rfl, by rw [List.length_append, lw]; rfl, fun z hz => ?_, fun h => ?_⟩
      · rcases List.mem_append.mp hz with q | q
        · exact wok z q
        · rw [List.mem_singleton.mp q]
          split <;> omega
      · by_cases e : lo = i
        · rw [List.getElem?_append_right (by omega), e, lw, Nat.sub_self, wl2 e]
          have : ¬ top < 0 := by omega
          rw [if_neg this]
          rfl
        · rw [List.getElem?_append_left (by omega)]
          exact wlo (by omega)
    rintro σ H5 ⟨x6, x7, ws, rfl, k5, b5, e5, lw, wok, wlo⟩
    have wlo := wlo (by omega)
    -- the grid
    refine ⟨_, rfl, x, 8, rfl, b5, by decide, by decide, fun H6 sp k6 b6 sp8 => ?_⟩
    refine ⟨_, rfl, x, 2, rfl, b6, by decide, by decide, fun H7 al k7 b7 al2 => ?_⟩
    have k57 := k6.trans k7
    have k07 := k5.trans k57
    have e7 := k57 _ _ e5 nS
    refine ⟨le_line (show 0 ≤ 10000000 by decide), fun A1 hA0 => ?_⟩
    have hA := k07.freeT b7 hA0
    have nA := b7.ne hA0
    have nSA : S ≠ A1 := ne_of_none e7 hA0
    have k08 := k07.upd_new (o := .lst []) hA0
    have b8 := b7.new (o := .lst []) hA0
    have e8 : (upd H7 A1 (.lst [])) A1 = some (.lst (([] : List Int).map V.int)) := upd_same
    have S8 : (upd H7 A1 (.lst [])) S = some (.lst (ws.map V.int)) := by rw [upd_ne nSA]; exact e7
    generalize upd H7 A1 (.lst []) = H8 at k08 b8 e8 S8
    refine ⟨le_line (show 0 ≤ 10000000 by decide), fun B1 hB0 => ?_⟩
    have hB := k08.freeT b8 hB0
    have nB := b8.ne hB0
    have nSB : S ≠ B1 := ne_of_none S8 hB0
    have nAB : A1 ≠ B1 := ne_of_none e8 hB0
    have k09 := k08.upd_new (o := .lst []) hB0
    have b9 := b8.new (o := .lst []) hB0
    have B9 : (upd H8 B1 (.lst [])) B1 = some (.lst (([] : List Int).map V.int)) := upd_same
    have A9 : (upd H8 B1 (.lst [])) A1 = some (.lst (([] : List Int).map V.int)) := by rw [upd_ne nAB]; exact e8
    have S9 : (upd H8 B1 (.lst [])) S = some (.lst (ws.map V.int)) := by rw [upd_ne nSB]; exact S8
    generalize upd H8 B1 (.lst []) = H9 at k09 b9 B9 A9 S9
    refine ⟨_, rfl, by decide, by decide, ?_⟩
    refine for_range (n := 8) (fun i σ H' => ∃ (x6 x12 : Option V) (as bs : List Int), σ = [some (.ref x), some (.int top), some (.str "abcdefghijklmnopqrstuvwxyz"), some (.int (m : Nat)), some (.int (lo : Nat)), some (.ref S), x6, x7, some (.int (sp : Nat)), some (.int (al : Nat)), some (.ref A1), some (.ref B1), x12, none, none, none, none] ∧ Kp x H H' ∧ BxT H' x ∧ H' S = some (.lst (ws.map V.int)) ∧ H' A1 = some (.lst (as.map V.int)) ∧ H' B1 = some (.lst (bs.map V.int)) ∧ as.length = i ∧ bs.length = i ∧ (∀ z ∈ bs, -100 ≤ z ∧ z ≤ 100) ∧ (sp < i → ∃ d, bs[sp]? = some d ∧ d ∈ odd6))
      ⟨_, none, [], [], rfl, k09, b9, S9, A9, B9, rfl, rfl, (fun z h => nomatch h), fun h => by omega⟩ ?_ ?_
    · rintro i σ H10 hi ⟨x6', x12, as, bs, rfl, k10, b10, S10, A10, B10, la, lb, bok, bsp⟩
      refine ⟨_, rfl, .inl ⟨rfl, _, SqL.of A10⟩, _, rfl, x, 26, rfl, b10, by decide, by decide, fun H11 a11 k11 b11 a26 => ?_⟩
      refine ⟨A1, _, _, rfl, rfl, k11 _ _ A10 nA, by rw [List.length_map]; exact lt_line (by omega), ?_⟩
      have k12 := (k10.trans k11).upd_own (o := .lst (as.map V.int ++ [V.int (a11 : Nat)])) hA
      have b12 := b11.upd_ne (o := .lst (as.map V.int ++ [V.int (a11 : Nat)])) nA
      have A12 : (upd H11 A1 (.lst (as.map V.int ++ [V.int (a11 : Nat)]))) A1 = some (.lst ((as ++ [((a11 : Nat) : Int)]).map V.int)) := by rw [upd_same, List.map_append]; rfl
      have S12 : (upd H11 A1 (.lst (as.map V.int ++ [V.int (a11 : Nat)]))) S = some (.lst (ws.map V.int)) := by rw [upd_ne nSA]; exact k11 _ _ S10 nS
      have B12 : (upd H11 A1 (.lst (as.map V.int ++ [V.int (a11 : Nat)]))) B1 = some (.lst (bs.map V.int)) := by rw [upd_ne (Ne.symm nAB)]; exact k11 _ _ B10 nB
      generalize upd H11 A1 (.lst (as.map V.int ++ [V.int (a11 : Nat)])) = H12 at k12 b12 A12 S12 B12
      refine ⟨_, rfl, x, 12, rfl, b12, by decide, by decide, fun H13 d13 k13 b13 d12 => ?_⟩
      have k013 := k12.trans k13
      have S13 := k13 _ _ S12 nS
      have A13 := k13 _ _ A12 nA
      have B13 := k13 _ _ B12 nB
      refine ⟨fun σ H' => ∃ d : Int, σ = [some (.ref x), some (.int top), some (.str "abcdefghijklmnopqrstuvwxyz"), some (.int (m : Nat)), some (.int (lo : Nat)), some (.ref S), some (.int (0 + ((i : Nat) : Int))), x7, some (.int (sp : Nat)), some (.int (al : Nat)), some (.ref A1), some (.ref B1), some (.int d), none, none, none, none] ∧ -100 ≤ d ∧ d ≤ 100 ∧ (sp = i → d ∈ odd6) ∧ Kp x H H' ∧ BxT H' x ∧ H' S = some (.lst (ws.map V.int)) ∧ H' A1 = some (.lst ((as ++ [((a11 : Nat) : Int)]).map V.int)) ∧ H' B1 = some (.lst (bs.map V.int)), ?_, ?_⟩
      · refine ⟨_, rfl, _, rfl, rfl, _, rfl, ite2 (fun _ => ?_) (fun c => ?_)⟩
        · refine ⟨le_line (show 12 ≤ 10000000 by decide), fun l3 hl3 => ?_⟩
          obtain ⟨di, hdi, do1⟩ := pickI (l := odd6) (fun z => z ∈ odd6) (fun z h => h) (e := d13) (by show d13 < 12; omega)
          have hdb : -100 ≤ di ∧ di ≤ 100 := by
            have : ∀ z ∈ odd6, -100 ≤ z ∧ z ≤ 100 := by decide
            exact this di do1
          refine ⟨_, rfl, l3, _, _, _, rfl, rfl, SqL.of upd_same, at_ofG (j := d13) rfl hdi, ?_⟩
          exact ⟨di, rfl, hdb.1, hdb.2, fun _ => do1, k013.upd_new hl3, b13.new hl3, by rw [upd_ne (ne_of_none S13 hl3)]; exact S13, by rw [upd_ne (ne_of_none A13 hl3)]; exact A13, by rw [upd_ne (ne_of_none B13 hl3)]; exact B13⟩
        · have nsp : sp ≠ i := fun e => c (decide_eq_true (by rw [e]; congr 1; omega))
          refine ⟨_, rfl, rfl, _, rfl, ite2 (fun _ => ?_) (fun _ => ?_)⟩
          · exact ⟨0, rfl, by decide, by decide, fun e => absurd e nsp, k013, b13, S13, A13, B13⟩
          · exact ⟨_, rfl, by omega, by omega, fun e => absurd e nsp, k013, b13, S13, A13, B13⟩
      rintro σ H14 ⟨d, rfl, dlo, dhi, dodd, k14, b14, S14, A14, B14⟩
      refine ⟨_, rfl, .inl ⟨rfl, _, SqL.of B14⟩, _, rfl, B1, _, _, rfl, rfl, B14, by rw [List.length_map]; exact lt_line (by omega), ?_⟩
      refine ⟨_, _, as ++ [((a11 : Nat) : Int)], bs ++ [d], rfl, k14.upd_own hB, b14.upd_ne nB, by rw [upd_ne nSB]; exact S14, by rw [upd_ne nAB]; exact A14, by rw [upd_same, List.map_append]; rfl, by rw [List.length_append, la]; rfl, by rw [List.length_append, lb]; rfl, fun z hz => ?_, fun h => ?_⟩
      · rcases List.mem_append.mp hz with q | q
        · exact bok z q
        · rw [List.mem_singleton.mp q]
          exact ⟨dlo, dhi⟩
      · by_cases e : sp = i
        · exact ⟨d, by rw [List.getElem?_append_right (by omega), e, lb, Nat.sub_self]; rfl, dodd e⟩
        · obtain ⟨d', h1, h2⟩ := bsp (by omega)
          exact ⟨d', by rw [List.getElem?_append_left (by omega)]; exact h1, h2⟩
    rintro σ H10 ⟨x6', x12, as, bs, rfl, k10, b10, S10, A10, B10, la, lb, bok, bsp⟩
    obtain ⟨od, hod, odd⟩ := bsp (by omega)
    -- the names
    refine ⟨le_line (show 0 ≤ 10000000 by decide), fun R hR0 => ?_⟩
    have hR := k10.freeT b10 hR0
    have nR := b10.ne hR0
    have nSR : S ≠ R := ne_of_none S10 hR0
    have nAR : A1 ≠ R := ne_of_none A10 hR0
    have nBR : B1 ≠ R := ne_of_none B10 hR0
    have k11 := k10.upd_new (o := .lst []) hR0
    have b11 := b10.new (o := .lst []) hR0
    have R11 : (upd H10 R (.lst [])) R = some (.lst (([] : List Addr).map V.ref)) := upd_same
    have S11 : (upd H10 R (.lst [])) S = some (.lst (ws.map V.int)) := by rw [upd_ne nSR]; exact S10
    have A11 : (upd H10 R (.lst [])) A1 = some (.lst (as.map V.int)) := by rw [upd_ne nAR]; exact A10
    have B11 : (upd H10 R (.lst [])) B1 = some (.lst (bs.map V.int)) := by rw [upd_ne nBR]; exact B10
    generalize upd H10 R (.lst []) = H11 at k11 b11 R11 S11 A11 B11
    refine ⟨_, rfl, _, rfl, by omega, by omega, ?_⟩
    rw [Int.toNat_natCast]
    refine for_range (n := m) (fun i σ H' => ∃ (x6 x14 x15 x16 : Option V) (ts : List Addr) (rows : List Row), σ = [some (.ref x), some (.int top), some (.str "abcdefghijklmnopqrstuvwxyz"), some (.int (m : Nat)), some (.int (lo : Nat)), some (.ref S), x6, x7, some (.int (sp : Nat)), some (.int (al : Nat)), some (.ref A1), some (.ref B1), x12, some (.ref R), x14, x15, x16] ∧ Kp x H H' ∧ BxT H' x ∧ H' S = some (.lst (ws.map V.int)) ∧ H' A1 = some (.lst (as.map V.int)) ∧ H' B1 = some (.lst (bs.map V.int)) ∧ H' R = some (.lst (ts.map V.ref)) ∧ TupsAt H' ts rows ∧ rows.length = i ∧ (∀ (j : Nat) (q : Row), rows[j]? = some q → IsNm q.1 ∧ (∃ n, sp < n ∧ NmAt as bs n j q.1) ∧ ws[j]? = some q.2))
      ⟨_, none, none, none, [], [], rfl, k11, b11, S11, A11, B11, R11, ⟨rfl, fun i u p a => by simp at a⟩, rfl, fun j q h => by simp at h⟩ ?_ ?_
    · rintro i σ H12 hi ⟨x6a, x14, x15, x16, ts, rows, rfl, k12, b12, S12, A12, B12, R12, t12, lr, nmr⟩
      refine ⟨_, rfl, _, _, rfl, rfl, _, rfl, _, rfl, _, _, rfl, rfl, x, _, rfl, b12, by omega, by omega, fun H13 g13 k13 b13 g8 => ?_⟩
      have S13 := k13 _ _ S12 nS
      have A13 := k13 _ _ A12 nA
      have B13 := k13 _ _ B12 nB
      have R13 := k13 _ _ R12 nR
      have t13 : TupsAt H13 ts rows := t12.keep (fun u ys h => k13 _ _ h fun e => by
        obtain ⟨za, zb, zc, hz⟩ := b12
        have h : H12 u = some (.tup ys) := h
        rw [e, hz] at h
        cases h)
      have k013 := k12.trans k13
      refine ⟨_, _, rfl, rfl, _, rfl, _, rfl, by omega, by omega, for_range (n := (((sp : Nat) : Int) + 1 + ((g13 : Nat) : Int)).toNat) (fun p σ H' => ∃ (x16 : Option V) (z : Str), σ = [some (.ref x), some (.int top), some (.str "abcdefghijklmnopqrstuvwxyz"), some (.int (m : Nat)), some (.int (lo : Nat)), some (.ref S), some (.int (0 + ((i : Nat) : Int))), x7, some (.int (sp : Nat)), some (.int (al : Nat)), some (.ref A1), some (.ref B1), x12, some (.ref R), some (.str z), some (.int (((sp : Nat) : Int) + 1 + ((g13 : Nat) : Int))), x16] ∧ H13 = H' ∧ NmAt as bs p i z)
        ⟨_, "", rfl, rfl, rfl, fun j c h => by cases h⟩ ?_ ?_⟩
      · rintro p σ H14 hp ⟨x16', z, rfl, rfl, hz1, hz2⟩
        have hp8 : p < 8 := by omega
        have hsp := List.getElem?_eq_getElem (show p < as.length by omega)
        have hdp := List.getElem?_eq_getElem (show p < bs.length by omega)
        have bk := bok _ (List.getElem_mem (show p < bs.length by omega))
        generalize as[p]'(by omega) = sv at hsp
        generalize bs[p]'(by omega) = dv at hdp bk
        have e0 : (0 : Int) + ((p : Nat) : Int) = ((p : Nat) : Int) := by omega
        have e0i : (0 : Int) + ((i : Nat) : Int) = ((i : Nat) : Int) := by omega
        refine ⟨_, rfl, _, rfl, _, rfl, _, rfl, A1, _, _, _, rfl, rfl, SqL.of A13, at_ofG (j := p) (by omega) (by rw [List.getElem?_map, hsp]; rfl), _, rfl, _, rfl, _, rfl, B1, _, _, _, rfl, rfl, SqL.of B13, at_ofG (j := p) (by omega) (by rw [List.getElem?_map, hdp]; rfl), _, _, rfl, rfl, .inl ⟨by omega, by omega⟩, _, _, rfl, rfl, .inl ⟨_, rfl, ?_⟩⟩
        refine ⟨_, _, rfl, rfl, by show (0 : Int) < 26; decide, ?_⟩
        rw [e0i]
        have hb := ltr_lo sv dv i
        have hb1 := Int.emod_nonneg (sv + (i : Int) * dv) (show (26 : Int) ≠ 0 by decide)
        have hb2 := Int.emod_lt_of_pos (sv + (i : Int) * dv) (show (0 : Int) < 26 by decide)
        refine ⟨_, _, ltr sv dv i, rfl, rfl, (by rw [letters_len]; exact le_line (by decide)), at_ofG (z := (sv + (i : Int) * dv) % 26) (j := ((sv + (i : Int) * dv) % 26).toNat) (by omega) (letters_at _ (by omega)), _, _, rfl, rfl, ?_, ?_⟩
        · exact le_line (by rw [str_len, hz1]; show p + 1 ≤ _; omega)
        · have q := app_sg z (ltr sv dv i)
          refine ⟨_, _, rfl, rfl, ?_, fun j c hj => ?_⟩
          · rw [size_tl]
            show (z ++ sg (ltr sv dv i)).cps.toList.length = _
            rw [q, List.length_append, ← size_tl, hz1]
            rfl
          · have hj : (z ++ sg (ltr sv dv i)).cps.toList[j]? = some c := hj
            rw [q] at hj
            have lz : z.cps.toList.length = p := by rw [← size_tl, hz1]
            by_cases cj : j < p
            · rw [List.getElem?_append_left (by omega)] at hj
              exact hz2 j c hj
            · have hjl := (List.getElem?_eq_some_iff.mp hj).1
              rw [List.length_append, lz] at hjl
              have l1 : ([ltr sv dv i] : List Nat).length = 1 := rfl
              have ej : j = p := by omega
              subst ej
              rw [List.getElem?_append_right (by omega), lz, Nat.sub_self] at hj
              exact ⟨sv, dv, hsp, hdp, (Option.some.inj hj).symm⟩
      · rintro σ H14 ⟨x16', z, rfl, rfl, hz1, hz2⟩
        have hn : (((sp : Nat) : Int) + 1 + ((g13 : Nat) : Int)).toNat = sp + 1 + g13 := by omega
        rw [hn] at hz1
        have nz : IsNm z := ⟨by rw [hz1]; omega, by rw [hz1]; omega, fun c hc => by
          obtain ⟨j, hj, e⟩ := List.mem_iff_getElem.mp hc
          obtain ⟨s, d, _, _, e2⟩ := hz2 j c (by rw [List.getElem?_eq_getElem hj, e])
          rw [e2]
          exact ltr_lo s d i⟩
        have hwi := List.getElem?_eq_getElem (show i < ws.length by omega)
        generalize ws[i]'(by omega) = wv at hwi
        refine ⟨_, rfl, .inl ⟨rfl, _, SqL.of R13⟩, _, rfl, _, rfl, _, rfl, S, _, _, _, rfl, rfl, SqL.of S13, at_ofG (j := i) (by omega) (by rw [List.getElem?_map, hwi]; rfl), le_line (show 2 ≤ 10000000 by decide), fun q hq => ?_⟩
        have k14 := k013.upd_new (o := .tup [.str z, .int wv]) hq
        have b14 := b13.new (o := .tup [.str z, .int wv]) hq
        have q14 : (upd H13 q (.tup [.str z, .int wv])) q = some (.tup [.str z, .int wv]) := upd_same
        have S14 : (upd H13 q (.tup [.str z, .int wv])) S = some (.lst (ws.map V.int)) := by rw [upd_ne (ne_of_none S13 hq)]; exact S13
        have A14 : (upd H13 q (.tup [.str z, .int wv])) A1 = some (.lst (as.map V.int)) := by rw [upd_ne (ne_of_none A13 hq)]; exact A13
        have B14 : (upd H13 q (.tup [.str z, .int wv])) B1 = some (.lst (bs.map V.int)) := by rw [upd_ne (ne_of_none B13 hq)]; exact B13
        have R14 : (upd H13 q (.tup [.str z, .int wv])) R = some (.lst (ts.map V.ref)) := by rw [upd_ne (ne_of_none R13 hq)]; exact R13
        have t14 : TupsAt (upd H13 q (.tup [.str z, .int wv])) ts rows := t13.keep (fun u ys h => by rw [upd_ne (ne_of_none h hq)]; exact h)
        generalize upd H13 q (.tup [.str z, .int wv]) = H14 at k14 b14 q14 S14 A14 B14 R14 t14
        refine ⟨R, _, _, rfl, rfl, R14, by rw [List.length_map, t14.1]; exact lt_line (by omega), ?_⟩
        have tC : TupsAt (upd H14 R (.lst (ts.map V.ref ++ [.ref q]))) (ts ++ [q]) (rows ++ [(z, wv)]) := ((t14.snoc (q := (z, wv)) q14)).keep (fun u ys h => by
          rw [upd_ne (ne_of h R14 (fun e => nomatch e))]
          exact h)
        refine ⟨_, _, _, _, ts ++ [q], rows ++ [(z, wv)], rfl, k14.upd_own hR, b14.upd_ne nR, by rw [upd_ne nSR]; exact S14, by rw [upd_ne nAR]; exact A14, by rw [upd_ne nBR]; exact B14, by rw [upd_same, List.map_append]; rfl, tC, by rw [List.length_append, lr]; rfl, fun j q' hj => ?_⟩
        by_cases cj : j < rows.length
        · rw [List.getElem?_append_left cj] at hj
          exact nmr j q' hj
        · have hjl := (List.getElem?_eq_some_iff.mp hj).1
          rw [List.length_append] at hjl
          have l1 : ([(z, wv)] : List Row).length = 1 := rfl
          have ej : j = i := by omega
          rw [List.getElem?_append_right (by omega), ej, lr, Nat.sub_self] at hj
          cases hj
          rw [ej]
          exact ⟨nz, ⟨_, by omega, hz1, hz2⟩, hwi⟩
    · rintro σ H12 ⟨x6a, x14, x15, x16, ts, rows, rfl, k12, b12, S12, A12, B12, R12, t12, lr, nmr⟩
      refine ⟨_, rfl, R, _, rfl, .inl ⟨SqL.of R12, fun t ht => ?_⟩⟩
      refine key _ t ts rows (k12.upd_new ht) (b12.new ht) upd_same (t12.keep fun u ys h => by rw [upd_ne (ne_of_none h ht)]; exact h) ⟨by omega, by omega, ?_, fun q hq => ?_, fun q hq => ?_, ?_⟩ fun q hq => ?_
      · rw [List.nodup_iff_pairwise_ne, List.pairwise_iff_getElem]
        intro j k hj hk hjk e
        rw [List.length_map] at hj hk
        rw [List.getElem_map, List.getElem_map] at e
        obtain ⟨_, ⟨n1', hn1, a1, a2⟩, _⟩ := nmr j _ (List.getElem?_eq_getElem hj)
        obtain ⟨_, ⟨n2', hn2, c1, c2⟩, _⟩ := nmr k _ (List.getElem?_eq_getElem hk)
        have hs : sp < (rows[j].1).cps.toList.length := by rw [← size_tl, a1]; exact hn1
        have g1 := List.getElem?_eq_getElem hs
        obtain ⟨s1', d1', u1, u2, u3⟩ := a2 sp _ g1
        obtain ⟨s2', d2', v1, v2, v3⟩ := c2 sp (rows[j].1.cps.toList[sp]) (by rw [← e]; exact g1)
        rw [u1] at v1
        cases v1
        rw [u2] at v2
        cases v2
        rw [hod] at u2
        cases u2
        have := ltr_inj odd (j := j) (k := k) (by omega) (by omega) (u3.symm.trans v3)
        omega
      · obtain ⟨j, hj, e⟩ := List.mem_iff_getElem.mp hq
        exact (nmr j q (by rw [List.getElem?_eq_getElem hj, e])).1
      · obtain ⟨j, hj, e⟩ := List.mem_iff_getElem.mp hq
        obtain ⟨_, _, h⟩ := nmr j q (by rw [List.getElem?_eq_getElem hj, e])
        have := wok _ (List.mem_of_getElem? h)
        exact ⟨this.1, this.2.1⟩
      · have hlr : lo < rows.length := by omega
        obtain ⟨_, _, h⟩ := nmr lo _ (List.getElem?_eq_getElem hlr)
        rw [wlo] at h
        exact ⟨rows[lo], List.getElem_mem hlr, (Option.some.inj h).symm⟩
      · obtain ⟨j, hj, e⟩ := List.mem_iff_getElem.mp hq
        obtain ⟨_, _, h⟩ := nmr j q (by rw [List.getElem?_eq_getElem hj, e])
        exact (wok _ (List.mem_of_getElem? h)).2.2
end
end Sh
end
section
set_option Elab.async false
set_option linter.all false
set_option maxRecDepth 100000
set_option maxHeartbeats 4000000
namespace StX
open PySem PySem.Spec PyProof.Rows L2
section
variable {X : Cx} {CX : CXT} {k i : Nat} {f C : Addr} {sp : Sp} {E : XK} {x : Str} {e : Expr} {te : TE} {p sp_ pos : Pos}
def tClsS (K : PySem.W.Frag) (C : Addr) (i : Nat) (sp : Sp) (E : XK) (te : TE) : TE := fun σ H Q => σ[i]? = some (some (.ref C)) ∧ te σ H fun y H1 => ∃ a xs, y = V.ref a ∧ (SqT K H1 a xs ∨ SqL K H1 a xs) ∧ ∀ x dx, H1 x = Option.none → H1 dx = Option.none → dx ≠ x →
  sp (V.ref x :: xs) (upd (upd H1 dx (.own x)) x (.ins C dx [])) (fun v H2 => v = .non ∧ Q (.ref x) H2) E
theorem pe_clsS (M : Mk X.K C f) (F : FnR X.prog X.w X.K X.mg X.base CX k f sp) (hr : Room (k + 1) X.A) (hN : X.N[i]? = some x) (hv : Vis X.env.scope x) (hx : Passes CX X E) (he : PE X e te)
    (hdb : (x == ("__debug__" : Str)) = false := by decide) (hcd : (x == ("__classdict__" : Str)) = false := by decide) (hst : starEach [.Starred e sp_] X.env = [(true, eval e X.env)] := by rfl) :
    PE X (.Call (.Name x p) [.Starred e sp_] [] pos) (tClsS X.K C i sp E te) := by
  refine ⟨fun pins s σ H Q I h => ?_⟩
  obtain ⟨hs, h⟩ := h
  refine wpAny_Call_Name_kw (thn ((pe_var (pos := p) hN hv hdb hcd).run pins s σ H (fun v H1 => v = .ref C ∧ H1 = H) I ⟨.ref C, hs, rfl, rfl⟩) fun u s1 ⟨v, H1, I1, r1, q1⟩ => ?_)
  obtain ⟨ev, eH⟩ := q1
  subst ev
  rw [eH] at I1
  obtain rfl : u = Value.ref C := r1
  refine PySem.W.callWith_S (h₀ := X.base) I.ok.mod.kin M.kp (thn (he.run pins s1 σ _ _ I1 h) fun v s2 ⟨y, H2, I2, ry, a, xs, ey, hxs, q⟩ => ?_) hst
  subst ey
  obtain rfl : v = Value.ref a := ry
  exact star_any I2 hxs fun us s3 I3 rv => ⟨I3.kIn, run_makeR M F hr hx I3 rv q⟩
end
end StX
namespace Sh
open PySem PySem.Spec PyProof.Rows L2
open TL (tl joinL tl_join join_eq tl_append tl_num numL numL_lt split_join partition_app int_num mk_tl len_tl)
open StX (pe_clsS)
open C8 (pss_cut tCut)
open Evl (ixN_nat)
/-- name/number -/
def pcT (q : Row) : Str := q.1 ++ "/" ++ Str.ofString (toString q.2)
def txT (rows : List Row) : Str := Txt.join " " (rows.map pcT)
theorem tl_small {n : Int} (h0 : 0 ≤ n) (h1 : n ≤ 9) : tl (Str.ofString (toString n)) = [48 + n.toNat] := by
  obtain ⟨m, rfl⟩ := Int.eq_ofNat_of_zero_le h0
  rw [tl_num, numL_lt (by omega)]
  rfl
theorem str_small {n : Int} (h0 : 0 ≤ n) (h1 : n ≤ 9) : Str.ofString (toString n) = sg (48 + n.toNat) := by
  have h := tl_small h0 h1
  rw [← mk_tl (Str.ofString (toString n)), h]
  rfl
theorem sl_free {z : Str} {s : Nat} (h : IsNm z) (hs : s < 97) : s ∉ tl z := fun hm => by
  have := h.2.2 s hm
  omega
theorem part_pc {q : Row} (h : IsNm q.1) : Txt.partition (pcT q) "/" = (q.1, ("/" : Str), Str.ofString (toString q.2)) := partition_app (y := "/") (s := 47) (S := []) (by decide +kernel) (sl_free h (by decide))
theorem pc_free {q : Row} (h : IsNm q.1) (w : 0 ≤ q.2 ∧ q.2 ≤ 3) : 32 ∉ tl (pcT q) := fun hm => by
  unfold pcT at hm
  rw [tl_append, tl_append, tl_small w.1 (by omega)] at hm
  rcases List.mem_append.mp hm with hm | hm
  · rcases List.mem_append.mp hm with hm | hm
    · exact sl_free h (by decide) hm
    · exact absurd hm (by decide +kernel)
  · have := List.mem_singleton.mp hm
    omega
theorem split_tx {rows : List Row} (R : ROk 8 rows) : Txt.split (txT rows) " " = rows.map pcT := by
  refine split_join (y := " ") (s := 32) (S := []) (by decide +kernel) (by decide +kernel) (fun e => ?_) fun p hp => ?_
  · have h1 := congrArg List.length e
    rw [List.length_map] at h1
    have h2 := R.pos
    have h3 : ([] : List Str).length = 0 := rfl
    omega
  · obtain ⟨q, hq, rfl⟩ := List.mem_map.mp hp
    exact pc_free (R.nm q hq) (R.wd q hq)
theorem pc_len {q : Row} (h : IsNm q.1) (w : 0 ≤ q.2 ∧ q.2 ≤ 3) : (pcT q).length ≤ 10 := by
  have e : tl (pcT q) = tl q.1 ++ tl "/" ++ [48 + q.2.toNat] := by
    unfold pcT
    rw [tl_append, tl_append, tl_small w.1 (by omega)]
  rw [len_tl, e, List.length_append, List.length_append]
  have h1 : (tl q.1).length ≤ 8 := by
    have := h.2.1
    rw [size_tl] at this
    exact this
  have h2 : (tl ("/" : Str)).length = 1 := by decide +kernel
  show (tl q.1).length + _ + 1 ≤ 10
  omega
def spText6 : Sp := fun vs H Q _ => ∃ (r : Addr) (ts : List Addr) (rows : List Row), vs = [.ref r] ∧ H r = some (.tup (ts.map V.ref)) ∧ TupsAt H ts rows ∧ ROk 4 rows ∧ ∀ H', Same H H' → Q (.str (txT rows)) H'
def spRead6 (C : Addr) : Sp := fun vs H Q _ => ∃ (rows : List Row), vs = [.ref C, .str (txT rows)] ∧ ROk 4 rows ∧ ∀ H' p, Same H H' → H p = none → BedAt C H' p rows → Q (.ref p) H'
abbrev N_law_text : List Str := ["kinds", "pair"]
theorem sc_law_text : FnScope N_law_text ["kinds"] (defScope s_law_text) := ⟨rfl, rfl, rfl, by decide +kernel, rfl, by decide +kernel, by decide +kernel⟩
abbrev N_read : List Str := ["cls", "text", "pairs", "piece", "name", "_", "digit"]
theorem sc_read : FnScope N_read ["cls", "text"] (defScope s_read) := ⟨rfl, rfl, rfl, by decide +kernel, rfl, by decide +kernel, by decide +kernel⟩
section
variable {P : Program} {w : World} {K : PySem.W.Frag} {mg : Str → Option Value} {base : Heap} {C fI : Addr}
theorem ok_text6 (T : Bl mg) (D : Def0 K mg "_law_text" s_law_text) : DefOk P w K mg base CX0 1 "_law_text" spText6 := by
  refine D.ok sc_law_text (fun vs H Q E h => ?_) (fun _ _ _ _ _ _ us hl => match us, hl with | [_], _ => rfl) (fun f cdv A outer s' H vs Q E hr h => ?_)
  · obtain ⟨r, ts, rows, rfl, _⟩ := h
    rfl
  · obtain ⟨r, ts, rows, rfl, hr0, ht, R, key⟩ := h
    refine ⟨_, (pss_one (ps_ret (pe_bm PySem.F.plainAttrs_str PySem.F.slot_str_join PySem.F.type_str_join mt_join pe_str (pa_cons (pe_lc (own := [("pair", 1)]) (g := (gName 1)) (tt := tYes) rfl sc_law_text.nd (pi_tup (pv 0)) (blkOk_by (N := N_law_text) (sc := defScope s_law_text) (by decide +kernel)) (fun _ _ _ _ _ => (pg_name (i := 1) sc_law_text.nd rfl (Or.inl rfl))) (fun _ _ _ _ _ => pts_nil) (fun _ _ _ _ _ => (pe_op op_add_str (pe_op op_add_str (pe_ix (show IxR _ (rIxT K) from ix_tup) (pv 1) pe_int (fun _ _ => rfl)) pe_str) (pe_callTy call_str_int (by rfl) T.b_str (by decide +kernel) (pa_cons (pe_ix (show IxR _ (rIxT K) from ix_tup) (pv 1) pe_int (fun _ _ => rfl)) pa_nil))))) pa_nil)))), ?_⟩
    refine ⟨rfl, _, rfl, r, rfl, ⟨_, SqT.of hr0⟩, fun D hD => lc_it (walk_tup (xs := ts.map V.ref)) (fun i H' => Same H H' ∧ H' D = some (.lst (((rows.take i).map pcT).map V.str))) ⟨(Same.refl H).upd_new hD, upd_same⟩ (fun i H' _ ⟨q, _⟩ => SqT.of (q _ _ hr0)) ?_ ?_⟩
    · rintro i v H1 H2 hi ⟨q1, q2⟩ ⟨rfl, hv⟩
      obtain ⟨u, hu, rfl⟩ := get_map_r hv
      have hir : i < rows.length := by rw [← ht.1]; exact (List.getElem?_eq_some_iff.mp hu).1
      have hq := List.getElem?_eq_getElem hir
      have hm := List.getElem_mem hir
      generalize rows[i] = q at hq hm
      have hT := q1 _ _ (ht.2 i u q hu hq)
      have hn := R.nm q hm
      have hw := R.wd q hm
      have hl := pc_len hn hw
      have l2 : (tl ("/" : Str)).length = 1 := by decide +kernel
      have l1 : q.1.length ≤ 8 := hn.2.1
      have l3 : (Str.ofString (toString q.2)).length = 1 := by rw [len_tl, tl_small hw.1 (by omega)]; rfl
      have l4 : (q.1 ++ "/").length = q.1.length + 1 := by rw [len_tl, tl_append, List.length_append, l2, len_tl]
      refine ⟨rfl, _, rfl, u, _, _, _, rfl, rfl, SqT.of hT, at_ofG (j := 0) rfl rfl, _, _, rfl, rfl, le_line (by rw [len_tl ("/" : Str), l2]; omega), ?_⟩
      refine ⟨_, rfl, u, _, _, _, rfl, rfl, SqT.of hT, at_ofG (j := 1) rfl rfl, _, rfl, ?_, _, _, rfl, rfl, le_line (by omega), ?_⟩
      · refine Nat.lt_of_le_of_lt (Nat.log2_le_self _) (by omega)
      refine ⟨_, q2, by rw [List.length_map, List.length_map, List.length_take]; have := R.len; exact lt_line (n := min i rows.length) (by omega), q1.upd_own hD, ?_⟩
      rw [upd_same, ← take_snoc hq, List.map_append, List.map_append]
      rfl
    · rintro H1 ⟨q1, q2⟩
      rw [List.length_map, ht.1, List.take_length] at q2
      refine ⟨_, D, _, rfl, rfl, .inl (SqL.of q2), ?_, key H1 q1⟩
      have : ∀ l : List Row, (∀ q ∈ l, IsNm q.1 ∧ 0 ≤ q.2 ∧ q.2 ≤ 3) → ((l.map pcT).map (·.length)).sum ≤ 10 * l.length := fun l => by
        induction l with
        | nil => intro _; exact Nat.le_refl _
        | cons q l ih =>
          intro hl
          rw [List.map_cons, List.map_cons, List.sum_cons, List.length_cons]
          have h1 := ih fun y hy => hl y (List.mem_cons_of_mem _ hy)
          have h2 := hl q List.mem_cons_self
          have h3 := pc_len h2.1 h2.2
          omega
      have h1 := this rows fun q hq => ⟨R.nm q hq, R.wd q hq⟩
      have h2 := R.len
      have h3 : (" " : Str).length = 1 := by decide +kernel
      rw [h3, List.length_map]
      omega
theorem ok_read6 (T : Bl mg) (c_DIGITS : ∃ t, mg "DIGITS" = some (.str "0123456789" t)) (M : Mk K C fI) (FI : FnR P w K mg base CX0 5 fI (spBedS C)) (c_all_letters : DefOk P w K mg base CX0 1 "all_letters" spTrueNm) {f : Addr} {cdv : Value} {A' : Around} {outer : List Env} {s' : Shared} {H : Hp} {vs : List V} {Q : VK} {E : XK} (hr : Room 7 (A'.deeper (envOfC "Bed.read" (defScope s_read) s'.heap.objs.size f cdv))) (h : spRead6 C vs H Q E) :
    ∃ t, PSs (cxOf CX0 P w K mg base N_read "Bed.read" (defScope s_read) f cdv A' outer s' H E).nox (defBody s_read) t ∧ t { nx := fun _ H' => Q .non H', rt := Q } (start N_read vs) H := by
  obtain ⟨rows, rfl, R, key⟩ := h
  have R8 : ROk 8 rows := ⟨R.pos, by have := R.len; omega, R.nd, R.nm, R.wd, R.leaf⟩
  refine ⟨_, (pss_cons (ps_set (i := 2) sc_read.nd rfl (Or.inl rfl) (pe_lst pa_nil))
    (pss_cons (ps_for PassesOwn.never rfl (pi_list (pe_bm PySem.F.plainAttrs_str PySem.F.slot_str_split PySem.F.type_str_split mt_split (pv 1) (pa_cons pe_str pa_nil))) (pg_name (i := 3) sc_read.nd rfl (Or.inl rfl))
      (pss_cons (ps_asg (pe_bm PySem.F.plainAttrs_str PySem.F.slot_str_partition PySem.F.type_str_partition mt_partition (pv 3) (pa_cons pe_str pa_nil)) (pg_tup (by rfl) (pgs_cons (pg_name (i := 4) sc_read.nd rfl (Or.inl rfl)) (pgs_cons (pg_name (i := 5) sc_read.nd rfl (Or.inl rfl)) (pgs_cons (pg_name (i := 6) sc_read.nd rfl (Or.inl rfl)) pgs_nil)))))
      (pss_cons (ps_if (PW.pt (pw_or (pt_not (pt_val (pe_d c_all_letters (hr.mono (by decide)) pass0 (pa_cons (pv 4) pa_nil)))) (pw_or (pt_cmpR op_ne (pe_callB call_len_str (by rfl) T.b_len boot_len (pa_cons (pv 6) pa_nil)) pe_int (nomark _)) (pw_or1 (pt_cmpR op_notIn_sign (pv 6) (pe_cS (by rfl) c_DIGITS) (by rfl))))))
        (pss_one ps_never)
        pss_nil)
      (pss_one (ps_expr (pe_bm PySem.F.plainAttrs_list PySem.F.slot_list_append PySem.F.type_list_append mt_append (pv 2) (pa_cons (pe_tup (pa_cons (pv 4) (pa_cons (pe_callTy call_int_str (by rfl) T.b_int (by decide +kernel) (pa_cons (pv 6) pa_nil)) pa_nil))) pa_nil)))))))
    (pss_one (ps_ret (pe_clsS (i := 0) M FI (hr.mono (by decide)) rfl (.inl rfl) pass0 (pv 2)))))), ?_⟩
  have lrows := R.len
  have ltx : (txT rows).length + 2 ≤ sizeLine := by
    refine le_line ?_
    have g : ∀ l : List Row, (∀ q ∈ l, IsNm q.1 ∧ 0 ≤ q.2 ∧ q.2 ≤ 3) → (tl (Str.join " " (l.map pcT))).length ≤ 11 * l.length := fun l => by
      rw [tl_join]
      induction l with
      | nil => intro _; exact Nat.le_refl _
      | cons q l ih =>
        intro hl
        have h1 := ih fun y hy => hl y (List.mem_cons_of_mem _ hy)
        have h2 := hl q List.mem_cons_self
        have h3 := pc_len h2.1 h2.2
        rw [len_tl] at h3
        cases l with
        | nil =>
          show (tl (pcT q)).length ≤ 11 * 1
          omega
        | cons q2 l =>
          show (tl (pcT q) ++ (tl " " ++ joinL (tl " ") (((q2 :: l).map pcT).map tl))).length ≤ 11 * ((q2 :: l).length + 1)
          have h4 : (tl (" " : Str)).length = 1 := by decide +kernel
          rw [List.length_append, List.length_append, h4]
          omega
    have h1 := g rows fun q hq => ⟨R.nm q hq, R.wd q hq⟩
    unfold txT
    rw [join_eq, len_tl]
    omega
  refine ⟨le_line (show 0 ≤ 10000000 by decide), fun S hS => ?_⟩
  have s1 := (Same.refl H).upd_new (o := .lst []) hS
  have e1 : (upd H S (.lst [])) S = some (.lst (([] : List Addr).map V.ref)) := upd_same
  generalize upd H S (.lst []) = H1 at s1 e1
  refine ⟨_, rfl, rfl, _, _, rfl, rfl, by decide +kernel, ltx, fun L hL => ?_⟩
  rw [split_tx R8]
  have s2 := s1.upd_new (o := .lst ((rows.map pcT).map V.str)) hL
  have e2 : (upd H1 L (.lst ((rows.map pcT).map V.str))) L = some (.lst ((rows.map pcT).map V.str)) := upd_same
  have S2 : (upd H1 L (.lst ((rows.map pcT).map V.str))) S = some (.lst (([] : List Addr).map V.ref)) := by rw [upd_ne (ne_of_none e1 hL)]; exact e1
  have nLS : L ≠ S := Ne.symm (ne_of_none e1 hL)
  generalize upd H1 L (.lst ((rows.map pcT).map V.str)) = H2 at s2 e2 S2
  refine ⟨L, rfl, ⟨_, SqL.of e2⟩, for_list (xs := (rows.map pcT).map V.str) (fun i σ H' => ∃ (x3 x4 x5 x6 : Option V) (ts : List Addr), σ = [some (.ref C), some (.str (txT rows)), some (.ref S), x3, x4, x5, x6] ∧ Same H H' ∧ H' L = some (.lst ((rows.map pcT).map V.str)) ∧ H' S = some (.lst (ts.map V.ref)) ∧ TupsAt H' ts (rows.take i))
    ⟨none, none, none, none, [], rfl, s2, e2, S2, ⟨rfl, fun i u p a => by simp at a⟩⟩ (fun i σ H' _ ⟨_, _, _, _, _, _, _, h, _⟩ => SqL.of h) ?_ ?_⟩
  · rintro i v σ H3 hv ⟨x3, x4, x5, x6, ts, rfl, s3, e3, S3, t3⟩
    rw [List.map_map, List.getElem?_map] at hv
    obtain ⟨q, hq, rfl⟩ := Option.map_eq_some_iff.mp hv
    have hm := List.mem_of_getElem? hq
    have hn := R.nm q hm
    have hw := R.wd q hm
    have hl := pc_len hn hw
    refine ⟨_, rfl, rfl, _, _, rfl, rfl, by decide +kernel, le_line (show (pcT q).length ≤ 10000000 by omega), fun p hp => ?_⟩
    rw [part_pc hn, str_small hw.1 (by omega)]
    have s4 := s3.upd_new (o := .tup [.str q.1, .str "/", .str (sg (48 + q.2.toNat))]) hp
    have p4 : (upd H3 p (.tup [.str q.1, .str "/", .str (sg (48 + q.2.toNat))])) p = some (.tup [.str q.1, .str "/", .str (sg (48 + q.2.toNat))]) := upd_same
    have e4 : (upd H3 p (.tup [.str q.1, .str "/", .str (sg (48 + q.2.toNat))])) L = some (.lst ((rows.map pcT).map V.str)) := by rw [upd_ne (ne_of_none e3 hp)]; exact e3
    have S4 : (upd H3 p (.tup [.str q.1, .str "/", .str (sg (48 + q.2.toNat))])) S = some (.lst (ts.map V.ref)) := by rw [upd_ne (ne_of_none S3 hp)]; exact S3
    have t4 : TupsAt (upd H3 p (.tup [.str q.1, .str "/", .str (sg (48 + q.2.toNat))])) ts (rows.take i) := t3.keep fun u ys h => by rw [upd_ne (ne_of_none h hp)]; exact h
    generalize upd H3 p (.tup [.str q.1, .str "/", .str (sg (48 + q.2.toNat))]) = H4 at s4 p4 e4 S4 t4
    refine ⟨p, _, rfl, SqT.of p4, rfl, _, _, rfl, _, _, rfl, _, _, rfl, rfl, ?_⟩
    refine ⟨_, rfl, q.1, rfl, hn, fun H5 s5 => ⟨_, rfl, ifn (by decide) ?_⟩⟩
    refine ⟨_, rfl, _, rfl, le_line (show 1 ≤ 10000000 by decide), rfl, _, rfl, ifn (by show ¬ (!decide (V.int ((1 : Nat) : Int) = V.int 1)) = true; decide) ?_⟩
    have hdig : decide ((48 + q.2.toNat) ∈ ("0123456789" : Str).cps.toList) = true := by
      have : ∀ n : Nat, n ≤ 3 → decide ((48 + n) ∈ ("0123456789" : Str).cps.toList) = true := by decide +kernel
      exact this _ (by omega)
    refine ⟨_, rfl, 48 + q.2.toNat, "0123456789", rfl, rfl, _, rfl, ifn (by rw [hdig]; decide) ?_⟩
    have t5 : TupsAt H5 ts (rows.take i) := t4.keep fun u ys h => s5 _ _ h
    have hint : PySem.intText? (sg (48 + q.2.toNat)) = some q.2 := by
      rw [← str_small hw.1 (by omega)]
      have := int_num (n := q.2.toNat) (by rw [numL_lt (by omega)]; show 1 ≤ 4300; decide)
      rw [Int.toNat_of_nonneg hw.1] at this
      exact this
    refine ⟨_, rfl, .inl ⟨rfl, _, SqL.of (s5 _ _ S4)⟩, _, rfl, _, rfl, _, q.2, rfl, hint, by show 1 ≤ 640; decide, le_line (show 2 ≤ 10000000 by decide), fun t ht => ?_⟩
    have S6 : (upd H5 t (.tup [.str q.1, .int q.2])) S = some (.lst (ts.map V.ref)) := by rw [upd_ne (ne_of_none (s5 _ _ S4) ht)]; exact s5 _ _ S4
    have e6 : (upd H5 t (.tup [.str q.1, .int q.2])) L = some (.lst ((rows.map pcT).map V.str)) := by rw [upd_ne (ne_of_none (s5 _ _ e4) ht)]; exact s5 _ _ e4
    have t6 : TupsAt (upd H5 t (.tup [.str q.1, .int q.2])) (ts ++ [t]) (rows.take i ++ [q]) := (t5.keep fun u ys h => by rw [upd_ne (ne_of_none h ht)]; exact h).snoc (q := q) upd_same
    have s6 := (s4.trans s5).upd_new (o := .tup [.str q.1, .int q.2]) ht
    generalize upd H5 t (.tup [.str q.1, .int q.2]) = H6 at S6 e6 t6 s6
    refine ⟨S, _, _, rfl, rfl, S6, by rw [List.length_map, t5.1, List.length_take]; exact lt_line (n := min i rows.length) (by omega), ?_⟩
    refine ⟨_, _, _, _, ts ++ [t], rfl, s6.upd_own hS, by rw [upd_ne nLS]; exact e6, by rw [upd_same, List.map_append]; rfl, ?_⟩
    rw [List.take_add_one, hq]
    exact t6.keep fun u ys h => by rw [upd_ne (ne_of h S6 (fun e => nomatch e))]; exact h
  · rintro σ H3 ⟨x3, x4, x5, x6, ts, rfl, s3, e3, S3, t3⟩
    rw [List.length_map, List.length_map, List.take_length] at t3
    refine ⟨rfl, _, rfl, S, _, rfl, .inr (SqL.of S3), fun x dx hx hd hxd => ?_⟩
    have sx : Same H3 (upd (upd H3 dx (.own x)) x (.ins C dx [])) := ((Same.refl H3).upd_new hd).upd_own hx
    refine ⟨[.ref x], ts.map V.ref, rfl, rfl, ?_, fun p hp => ?_⟩
    · rw [List.length_map, t3.1]
      exact le_line (by omega)
    have s4 := sx.upd_new (o := .tup (ts.map V.ref)) hp
    have nxp : x ≠ p := ne_of_none (upd_same (H := upd H3 dx (.own x)) (a := x)) hp
    refine ⟨x, dx, p, ts, rows, rfl, by rw [upd_ne nxp, upd_same], upd_same, t3.keep (TK.of_same s4), R8, fun H' kk b => ⟨rfl, ?_⟩⟩
    exact key H' x (fun b o hb => kk b o (s4 b o (s3 b o hb)) (ne_of_none (s3 b o hb) hx)) (s3.free hx) b
end
end Sh
end
section
set_option Elab.async false
set_option linter.all false
set_option maxRecDepth 100000
set_option maxHeartbeats 8000000
namespace Sh
open PySem PySem.Spec PyProof.Rows L2
open C8 (pss_cut tCut)
open Evl (ixN_nat)
structure RdD where
  many : Nat
  rest : Nat
  ent : List REnt
  rws : List REnt
  marks : List Nat
structure RdD.Ok (D : RdD) (rows : List Row) : Prop where
  m1 : 1 ≤ D.many
  m3 : D.many ≤ 40
  re : D.rest < D.many
  ks : D.ent.map ek = ksOf rows D.many
  lt : ∀ e ∈ D.ent, e.2.2 < D.many
  sub : ∀ e ∈ D.rws, e ∈ D.ent
  all : ∀ e ∈ D.ent, e ∈ D.rws ∨ e.2.2 = D.rest
  nd : (D.rws.map ek).Nodup
  rl : D.rws.length ≤ 10000
  mks : D.marks.Pairwise (· < ·)
  ml : ∀ m ∈ D.marks, m < D.many
def RdD.stp (D : RdD) (z : Str) (ss : List Nat) : Nat := ((D.rws.find? fun e => decide (ek e = (z, ss))).map (·.2.2)).getD D.rest
theorem nd_key {es : List REnt} (nd : (es.map ek).Nodup) {e e' : REnt} (h : e ∈ es) (h' : e' ∈ es) (k : ek e = ek e') : e = e' := by
  induction es with
  | nil => cases h
  | cons y es ih =>
    rw [List.map_cons] at nd
    obtain ⟨n1, n2⟩ := List.nodup_cons.mp nd
    rcases List.mem_cons.mp h with rfl | g
    · rcases List.mem_cons.mp h' with rfl | g'
      · rfl
      · exact absurd (List.mem_map.mpr ⟨e', g', k.symm⟩) n1
    · rcases List.mem_cons.mp h' with rfl | g'
      · exact absurd (List.mem_map.mpr ⟨e, g, k⟩) n1
      · exact ih n2 g g'
theorem RdD.Ok.ndE {D : RdD} {rows : List Row} (h : D.Ok rows) (R : ROk 4 rows) : (D.ent.map ek).Nodup := by
  rw [h.ks]
  exact ks_nd R.nd
theorem RdD.Ok.stp_ent {D : RdD} {rows : List Row} (h : D.Ok rows) (R : ROk 4 rows) {e : REnt} (he : e ∈ D.ent) : D.stp e.1 e.2.1 = e.2.2 := by
  unfold RdD.stp
  cases hf : D.rws.find? (fun q => decide (ek q = (e.1, e.2.1))) with
  | none =>
    rcases h.all e he with c | c
    · exact absurd (List.find?_eq_none.mp hf e c) (by show ¬ ¬ decide (ek e = ek e) = true; simp)
    · exact c.symm
  | some q =>
    have hp0 := List.find?_some hf
    have hp : ek q = ek e := of_decide_eq_true hp0
    have := nd_key (h.ndE R) (h.sub q (List.mem_of_find?_eq_some hf)) he hp
    rw [this]
    rfl
theorem RdD.Ok.ent_at {D : RdD} {rows : List Row} (h : D.Ok rows) (R : ROk 4 rows) {z : Str} {ss : List Nat} (hz : HasN rows z) (hl : ss.length = wR rows z) (hs : ∀ s ∈ ss, s < D.many) : (z, ss, D.stp z ss) ∈ D.ent := by
  have hm : (z, ss) ∈ ksOf rows D.many := (ks_has R).mpr ⟨hz, hl, hs⟩
  rw [← h.ks] at hm
  obtain ⟨e, he, hk⟩ := List.mem_map.mp hm
  obtain ⟨e1, e2⟩ := Prod.mk.inj hk
  have := h.stp_ent R he
  rw [e1, e2] at this
  rw [this, ← e1, ← e2]
  exact he
theorem RdD.Ok.stp_lt {D : RdD} {rows : List Row} (h : D.Ok rows) (R : ROk 4 rows) {z : Str} {ss : List Nat} (hz : HasN rows z) (hl : ss.length = wR rows z) (hs : ∀ s ∈ ss, s < D.many) : D.stp z ss < D.many := h.lt _ (h.ent_at R hz hl hs)
theorem RdD.Ok.val {D : RdD} {rows : List Row} (h : D.Ok rows) (R : ROk 4 rows) {z : Str} {ss : List Nat} (hz : HasN rows z) (hl : ss.length = wR rows z) (hs : ∀ s ∈ ss, s < D.many) : valV (D.ent.map rkv) (nkR (z, ss)) = some (.int ((D.stp z ss : Nat) : Int)) :=
  rkv_some (h.ndE R) (h.ent_at R hz hl hs)
def spStates52 : Sp := fun vs H Q _ => ∃ (m : Nat), vs = [.int (m : Nat)] ∧ 1 ≤ m ∧ m ≤ 40 ∧ Q .non H
def spAre52 : Sp := fun vs H Q _ => ∃ (m : Nat) (t : Addr) (ss : List Nat), vs = [.int (m : Nat), .ref t] ∧ H t = some (.tup (nI ss)) ∧ ss.length ≤ 1000 ∧ (∀ s ∈ ss, s < m) ∧ ∀ H', Same H H' → Q (.bl true) H'
def spMarks52 : Sp := fun vs H Q _ => ∃ (m : Nat) (t : Addr) (ms : List Nat), vs = [.int (m : Nat), .ref t] ∧ Tq H t (nI ms) ∧ ms.Pairwise (· < ·) ∧ (∀ s ∈ ms, s < m) ∧ Q .non H
def spByKind52 (C : Addr) : Sp := fun vs H Q _ => ∃ (b t : Addr) (us : List Addr) (m : Nat) (rows : List Row) (rs : List REnt), vs = [.ref b, .int (m : Nat), .ref t] ∧ BedAt C H b rows ∧ ROk 4 rows ∧ Tq H t (us.map V.ref) ∧ RwAt H us rs ∧ (rs.map ek).Nodup ∧ rs.length ≤ 10000 ∧ (∀ e ∈ rs, (e.1, e.2.1) ∈ ksOf rows m ∧ e.2.2 < m) ∧ ∀ H' d ds, Same H H' → CzAt H' d (rows.map (·.1)) ds rs → Q (.ref d) H'
abbrev N_check_states : List Str := ["states"]
theorem sc_check_states : FnScope N_check_states ["states"] (defScope s_check_states) := ⟨rfl, rfl, rfl, by decide +kernel, rfl, by decide +kernel, by decide +kernel⟩
abbrev N_are_states : List Str := ["states", "numbers", "number"]
theorem sc_are_states : FnScope N_are_states ["states", "numbers"] (defScope s_are_states) := ⟨rfl, rfl, rfl, by decide +kernel, rfl, by decide +kernel, by decide +kernel⟩
abbrev N_check_marks : List Str := ["states", "marks", "least", "mark"]
theorem sc_check_marks : FnScope N_check_marks ["states", "marks"] (defScope s_check_marks) := ⟨rfl, rfl, rfl, by decide +kernel, rfl, by decide +kernel, by decide +kernel⟩
abbrev N_rows_by_kind : List Str := ["bed", "states", "rows", "table", "place", "kind", "below", "state"]
theorem sc_rows_by_kind : FnScope N_rows_by_kind ["bed", "states", "rows"] (defScope s_rows_by_kind) := ⟨rfl, rfl, rfl, by decide +kernel, rfl, by decide +kernel, by decide +kernel⟩
section
variable {P : Program} {w : World} {K : PySem.W.Frag} {mg : Str → Option Value} {base : Heap} {C : Addr}
theorem ok_states52 (T : Bl mg) (c_MOST_STATES : ∃ t, mg "MOST_STATES" = some (.int 40 t)) (D : Def0 K mg "check_states" s_check_states) : DefOk P w K mg base CX0 1 "check_states" spStates52 := by
  refine D.ok sc_check_states (fun vs H Q E h => ?_) (fun _ _ _ _ _ _ us hl => match us, hl with | [_], _ => rfl) (fun f cdv A outer s H vs Q E hr h => ?_)
  · obtain ⟨m, rfl, _⟩ := h
    rfl
  · obtain ⟨m, rfl, h1, h3, k⟩ := h
    refine ⟨_, (pss_cons (ps_if (pt_cmpR op_gt (pv 0) (pe_cI (by rfl) c_MOST_STATES) (nomark _))
        (pss_one ps_never)
        pss_nil)
      (pss_one (ps_if (pt_cmpR op_lt (pv 0) pe_int (nomark _))
        (pss_one ps_never)
        pss_nil))), ?_⟩
    exact ⟨_, rfl, _, _, rfl, rfl, _, rfl, ite2 (fun c => absurd (of_decide_eq_true c) (by omega)) (fun _ => ⟨_, rfl, _, _, rfl, rfl, _, rfl, ite2 (fun c => absurd (of_decide_eq_true c) (by omega)) (fun _ => k)⟩)⟩
theorem ok_are52 (T : Bl mg) (D : Def0 K mg "are_states" s_are_states) : DefOk P w K mg base CX0 1 "are_states" spAre52 := by
  refine D.ok sc_are_states (fun vs H Q E h => ?_) (fun _ _ _ _ _ _ us hl => match us, hl with | [_, _], _ => rfl) (fun f cdv A outer s H vs Q E hr h => ?_)
  · obtain ⟨m, t, ss, rfl, _⟩ := h
    rfl
  · obtain ⟨m, t, ss, rfl, ht, h1, h2, k⟩ := h
    refine ⟨_, (pss_one (ps_ret (pe_callB (cr_all rfl) (by rfl) T.b_all (by decide +kernel) (pa_cons (pe_lc (own := [("number", 2)]) (g := (gName 2)) (tt := tYes) rfl sc_are_states.nd (pi_tup (pv 1)) (blkOk_by (N := N_are_states) (sc := defScope s_are_states) (by decide +kernel)) (fun _ _ _ _ _ => (pg_name (i := 2) sc_are_states.nd rfl (Or.inl rfl))) (fun _ _ _ _ _ => pts_nil) (fun _ _ _ _ _ => (pe_chain op_le op_lt pe_int (pv 2) (pv 0)))) pa_nil)))), ?_⟩
    refine ⟨_, rfl, t, rfl, ⟨_, SqT.of ht⟩, fun D hD => lc_it (walk_tup (xs := nI ss)) (fun i H' => Same H H' ∧ H' D = some (.lst ((List.replicate i true).map V.bl))) ⟨(Same.refl H).upd_new hD, upd_same⟩ (fun i H' _ ⟨q, _⟩ => SqT.of (q _ _ ht)) ?_ ?_⟩
    · rintro i v H1 H2 hi ⟨q1, q2⟩ ⟨rfl, hv⟩
      rw [nI_len] at hi
      have hs := List.getElem?_eq_getElem hi
      have hm := h2 _ (List.getElem_mem hi)
      rw [nI_at hs] at hv
      injection hv with hv
      subst hv
      generalize ss[i] = s at hm
      refine ⟨rfl, _, rfl, _, _, rfl, rfl, _, rfl, ifp (decide_eq_true (by omega)) ⟨_, rfl, _, _, rfl, rfl, ?_⟩⟩
      have ed : ((fun i j : Int => V.bl (decide (i < j))) ((s : Nat) : Int) ((m : Nat) : Int)) = V.bl true := by
        show V.bl (decide _) = _
        rw [decide_eq_true (by omega)]
      rw [ed]
      refine ⟨_, q2, ?_, q1.upd_own hD, ?_⟩
      · rw [List.length_map, List.length_replicate]
        exact lt_line (by omega)
      · rw [upd_same, List.replicate_succ', List.map_append]
        rfl
    · rintro H1 ⟨q1, q2⟩
      refine ⟨D, _, rfl, SqL.of q2, ?_⟩
      rw [show (List.replicate (nI ss).length true).all id = true from by rw [List.all_eq_true]; intro x hx; exact (List.mem_replicate.mp hx).2]
      exact k H1 q1
theorem ok_marks52 (T : Bl mg) (D : Def0 K mg "check_marks" s_check_marks) : DefOk P w K mg base CX0 1 "check_marks" spMarks52 := by
  refine D.ok sc_check_marks (fun vs H Q E h => ?_) (fun _ _ _ _ _ _ us hl => match us, hl with | [_, _], _ => rfl) (fun f cdv A outer s H vs Q E hr h => ?_)
  · obtain ⟨m, t, ms, rfl, _⟩ := h
    rfl
  · obtain ⟨m, t, ms, rfl, ht, pw, lt, k⟩ := h
    refine ⟨_, (pss_cons (ps_set (i := 2) sc_check_marks.nd rfl (Or.inl rfl) pe_int)
      (pss_one (ps_for PassesOwn.never rfl (pi_tup (pv 1)) (pg_name (i := 3) sc_check_marks.nd rfl (Or.inl rfl))
        (pss_cons (ps_if (PW.pt (pw_or (pt_cmpR op_lt (pv 3) (pv 2) (nomark _)) (pw_or1 (pt_cmpR op_ge (pv 3) (pv 0) (nomark _)))))
          (pss_one ps_never)
          pss_nil)
        (pss_one (ps_set (i := 2) sc_check_marks.nd rfl (Or.inl rfl) (pe_op op_add (pv 3) pe_int))))))), ?_⟩
    refine ⟨_, rfl, t, rfl, ⟨_, ht.sq⟩, for_tup (xs := nI ms) (fun i σ H' => ∃ (x3 : Option V) (l : Nat), σ = [some (.int (m : Nat)), some (.ref t), some (.int (l : Nat)), x3] ∧ H = H' ∧ ∀ (j s : Nat), i ≤ j → ms[j]? = some s → l ≤ s)
      ⟨none, 0, rfl, rfl, fun _ _ _ _ => Nat.zero_le _⟩ (fun i σ H' _ ⟨_, _, _, e, _⟩ => e ▸ ht.sq) ?_ ?_⟩
    · rintro i v σ H1 hv ⟨x3, l, rfl, rfl, hl⟩
      have hi : i < ms.length := by rw [← nI_len ms]; exact (List.getElem?_eq_some_iff.mp hv).1
      have hs := List.getElem?_eq_getElem hi
      have hm := lt _ (List.getElem_mem hi)
      rw [nI_at hs] at hv
      injection hv with hv
      subst hv
      have hge := hl i ms[i] (Nat.le_refl _) hs
      have nx : ∀ (j s : Nat), i + 1 ≤ j → ms[j]? = some s → ms[i] + 1 ≤ s := fun j s hj h => by
        obtain ⟨l1, e1⟩ := List.getElem?_eq_some_iff.mp h
        rw [← e1]
        exact List.pairwise_iff_getElem.mp pw i j hi l1 (by omega)
      generalize ms[i] = s at hm hge nx
      refine ⟨_, rfl, _, rfl, _, _, rfl, rfl, _, rfl, ite2 (fun c => absurd (of_decide_eq_true c) (by omega)) (fun _ => ⟨_, rfl, _, rfl, _, _, rfl, rfl, _, rfl, ite2 (fun c => absurd (of_decide_eq_true c) (by omega)) (fun _ => ⟨_, rfl, _, _, rfl, rfl, ?_⟩)⟩)⟩
      exact ⟨_, s + 1, rfl, rfl, nx⟩
    · rintro σ H1 ⟨x3, l, rfl, rfl, hl⟩
      exact k
theorem ok_bykind52 (T : Bl mg) (B : BedT K C) (c_are_states : DefOk P w K mg base CX0 1 "are_states" spAre52) (D : Def0 K mg "rows_by_kind" s_rows_by_kind) : DefOk P w K mg base CX0 2 "rows_by_kind" (spByKind52 C) := by
  refine D.ok sc_rows_by_kind (fun vs H Q E h => ?_) (fun _ _ _ _ _ _ us hl => match us, hl with | [_, _, _], _ => rfl) (fun f cdv A outer s H vs Q E hr h => ?_)
  · obtain ⟨b, t, us, m, rows, rs, rfl, _⟩ := h
    rfl
  · obtain ⟨b, t, us, m, rows, rs, rfl, hB, R, ht, hW, nd, l108, good, key⟩ := h
    have hu := hu_of hr
    have r4 := R.len
    refine ⟨_, (pss_cons (ps_setDc (i := 3) (own := [("kind", 5)]) (g := (gName 5)) (tt := tYes) rfl sc_rows_by_kind.nd rfl rfl (sw_trueD rfl rfl rfl (by decide +kernel)) (pi_tup (pe_fld (pv 0) rfl)) (blkOk_by (N := N_rows_by_kind) (sc := defScope s_rows_by_kind) (by decide +kernel)) (fun _ _ _ _ _ => (pg_name (i := 5) sc_rows_by_kind.nd rfl (Or.inl rfl))) (fun _ _ _ _ _ => pts_nil) (fun _ _ _ _ _ => (pv 5)) (fun _ _ _ _ _ => pe_dnewT))
      (pss_cons (ps_for PassesOwn.never rfl (pi_enumT (by rfl) T.b_enumerate (pa_cons (pv 2) pa_nil)) (pg_tup (by rfl) (pgs_cons (pg_name (i := 4) sc_rows_by_kind.nd rfl (Or.inl rfl)) (pgs_cons (pg_tup (by rfl) (pgs_cons (pg_name (i := 5) sc_rows_by_kind.nd rfl (Or.inl rfl)) (pgs_cons (pg_name (i := 6) sc_rows_by_kind.nd rfl (Or.inl rfl)) (pgs_cons (pg_name (i := 7) sc_rows_by_kind.nd rfl (Or.inl rfl)) pgs_nil)))) pgs_nil)))
        (pss_cons (ps_if (PW.pt (pw_or (pt_cmp (pc_dnotin hu (pv 5) (pv 3))) (pw_or (pt_cmpR op_ne (pe_callB call_len_seq (by rfl) T.b_len boot_len (pa_cons (pv 6) pa_nil)) (pe_dget hu (pe_fld (pv 0) rfl) (pv 5) (fun _ _ => rfl)) (nomark _)) (pw_or1 (pt_cmp (pc_din hu (pv 6) (pe_dget hu (pv 3) (pv 5) (fun _ _ => rfl))))))))
          (pss_one ps_never)
          pss_nil)
        (pss_cons (ps_if (pt_not (pt_val (pe_d c_are_states (hr.mono (by decide)) pass0 (pa_cons (pv 1) (pa_cons (pe_tup (StX.pa_star (pv 6) (pa_cons (pv 7) pa_nil))) pa_nil)))))
          (pss_one ps_never)
          pss_nil)
        (pss_one (ps_dput hu (pe_dget hu (pv 3) (pv 5) (fun _ _ => rfl)) (pv 6) (pv 7) rfl)))))
      (pss_one (ps_ret (pv 3))))), ?_⟩
    obtain ⟨bx, r, kk, ww, rk, ts, b1, b2, b3, b4, b5, b6⟩ := id hB
    refine ⟨_, rfl, b, C, bx, _, _, rfl, b1, B.cl, B.nK, lk_kinds _ _ _ _, kk, rfl, ⟨_, SqT.of b4⟩, fun D hD => dc_it (walk_tup (xs := (rows.map (·.1)).map V.str)) (fun i H' => Same H H' ∧ ∃ ds, CzAt H' D ((rows.map (·.1)).take i) ds [] ∧ ∀ a ∈ ds, H a = none)
      ⟨(Same.refl H).upd_new hD, [], ⟨upd_same, by simp, List.nodup_nil, (fun h => nomatch h), fun i n a h => by simp at h⟩, fun a h => nomatch h⟩ (fun i H' _ ⟨q, _⟩ => SqT.of (q _ _ b4)) ?_ ?_⟩
    · rintro i v H3 H4 hi ⟨s3, ds, T3, f3⟩ ⟨rfl, hv⟩
      rw [List.length_map] at hi
      obtain ⟨n, hn, rfl⟩ := get_map hv
      refine ⟨rfl, ?_⟩
      refine ⟨_, rfl, fun p hp => ?_⟩
      have npD : p ≠ D := fun e => by rw [e, T3.at_] at hp; cases hp
      have f2p := s3.free hp
      have hl : ((rows.map (·.1)).take i).length = i := by rw [List.length_take]; omega
      refine ⟨_, .inr n, rfl, by rw [upd_ne (Ne.symm npD)]; exact T3.at_, ?_, (s3.upd_new hp).upd_own hD, ds ++ [p], ?_, fun a ha => ?_⟩
      · unfold tnL
        rw [List.length_map, List.length_zip, hl]
        rw [List.length_map] at hi
        exact lt_line (n := min i _) (by omega)
      · rw [← take_snoc hn]
        refine T3.add hp fun hm => ?_
        have := nd_take R.nd (i := i) (by omega)
        obtain ⟨l1, e1⟩ := List.getElem?_eq_some_iff.mp hn
        exact this (e1 ▸ hm)
      · rcases List.mem_append.mp ha with ha | ha
        · exact f3 a ha
        · rw [List.mem_singleton.mp ha]
          exact f2p
    rintro H3 ⟨s3, ds, T3, f3⟩
    rw [List.length_map, List.take_length] at T3
    have lus : (us.map V.ref).length = rs.length := by rw [List.length_map, hW.1]
    refine ⟨_, rfl, t, _, rfl, (ht.same s3).sq, for_it (walk_enumT (xs := us.map V.ref)) (fun i σ H' => ∃ (x4 x5 x6 x7 : Option V), σ = [some (.ref b), some (.int (m : Nat)), some (.ref t), some (.ref D), x4, x5, x6, x7] ∧ Same H H' ∧ CzAt H' D (rows.map (·.1)) ds (rs.take i))
      ⟨none, none, none, none, rfl, s3, T3⟩ (fun i σ H' _ ⟨_, _, _, _, _, s2, _⟩ => (ht.same s2).sq) ?_ ?_⟩
    · rintro i v σ H4 H4' hi ⟨x4, x5, x6, x7, rfl, s4, T4⟩ ⟨P1, v1, v2, rfl, hP1, rfl, e1, e2⟩
      cases e1
      have his : i < rs.length := by rw [lus] at hi; exact hi
      have hiu : i < us.length := by rw [hW.1]; exact his
      have hqi := List.getElem?_eq_getElem his
      obtain ⟨gk, gs⟩ := good _ (List.getElem_mem his)
      obtain ⟨bb, w1, w2⟩ := hW.2 i us[i] rs[i] (List.getElem?_eq_getElem hiu) hqi
      have w1 := s4 _ _ w1
      have w2 := s4 _ _ w2
      have e2' : (us.map V.ref)[i]? = some v2 := e2
      rw [List.getElem?_map, List.getElem?_eq_getElem hiu] at e2'
      cases e2'
      have fr : ek rs[i] ∉ (rs.take i).map ek := fun h => by
        obtain ⟨y, hy, ey⟩ := List.mem_map.mp h
        obtain ⟨j, hj, e⟩ := List.mem_iff_getElem.mp hy
        rw [List.length_take] at hj
        have hj' : j < rs.length := by omega
        have h1 : (rs.map ek)[j]? = some (ek rs[i]) := by
          rw [List.getElem?_map, List.getElem?_eq_getElem hj', ← ey, ← e, List.getElem_take]
          rfl
        have h2 : (rs.map ek)[i]? = some (ek rs[i]) := by rw [List.getElem?_map, hqi]; rfl
        obtain ⟨l1, g1⟩ := List.getElem?_eq_some_iff.mp h1
        obtain ⟨l2, g2⟩ := List.getElem?_eq_some_iff.mp h2
        have := (List.getElem_inj nd).mp (g1.trans g2.symm)
        omega
      generalize us[i] = u at w1
      generalize rs[i] = en at hqi gk gs w1 w2 fr
      obtain ⟨z, ss, s⟩ := en
      obtain ⟨hz, hl, hlt⟩ := (ks_has R).mp gk
      have hz : HasN rows z := hz
      have hl : ss.length = wR rows z := hl
      have hlt : ∀ s ∈ ss, s < m := hlt
      have gs : s < m := gs
      have fr : (z, ss) ∉ (rs.take i).map ek := fr
      have s5 := (Same.refl H4).upd_new (o := .tup [.int ((i : Nat) : Int), .ref u]) hP1
      have f5 : (upd H4 P1 (.tup [.int ((i : Nat) : Int), .ref u])) P1 = some (.tup [.int ((i : Nat) : Int), .ref u]) := upd_same
      generalize upd H4 P1 (.tup [.int ((i : Nat) : Int), .ref u]) = H5 at s5 f5
      have T5 := T4.same s5
      have s05 := s4.trans s5
      obtain ⟨q, hq, eq1⟩ := id hz
      obtain ⟨k, hk⟩ := List.mem_iff_getElem?.mp (List.mem_map.mpr ⟨q, hq, eq1⟩ : z ∈ rows.map (·.1))
      have hkl := (List.getElem?_eq_some_iff.mp hk).1
      have hda := List.getElem?_eq_getElem (show k < ds.length by rw [T5.len]; exact hkl)
      have fa := f3 _ (List.getElem_mem (show k < ds.length by rw [T5.len]; exact hkl))
      generalize ds[k]'(by rw [T5.len]; exact hkl) = a at hda fa
      have ha := T5.row k z a hk hda
      have gT : DGet H5 D (.str z) (some (.ref a)) := by
        have := DGet.k (k := .inr z) T5.at_
        rw [tn_val R.nd hk hda] at this
        exact this
      have gW : DGet H5 ww (.str z) (some (.int ((wR rows z : Nat) : Int))) := by
        have := DGet.k (k := .inr z) (s05 _ _ b5)
        rw [val_wL R hz] at this
        exact this
      have gC : DGet H5 a (.ref bb) none := by
        have := DGet.t (k := tkey ss) ha (by rw [s5 _ _ w2, tkey_V])
        rw [cz_val, Option.map_eq_none_iff.mpr (List.find?_eq_none.mpr fun y hy c => fr (List.mem_map.mpr ⟨y, hy, of_decide_eq_true c⟩))] at this
        exact this
      refine ⟨P1, _, rfl, SqT.of f5, rfl, _, _, rfl, _, _, rfl, u, _, rfl, SqT.of (s5 _ _ w1), rfl, _, _, rfl, _, _, rfl, _, _, rfl, rfl, rfl, ?_⟩
      refine ⟨_, rfl, _, rfl, D, _, rfl, gT, _, rfl, ite2 (fun c => absurd c (by simp)) (fun _ => ?_)⟩
      refine ⟨_, rfl, bb, _, rfl, .inr (SqT.of (s5 _ _ w2)), _, rfl, b, C, bx, _, _, rfl, s05 _ _ b1, B.cl, B.nW, lk_widths _ _ _ _, _, rfl, ww, _, rfl, gW, rfl, _, rfl, ite2 (fun c => ?_) (fun _ => ?_)⟩
      · rw [nI_len, hl] at c
        simp at c
      refine ⟨_, rfl, _, rfl, _, rfl, D, _, rfl, gT, a, _, rfl, gC, _, rfl, ite2 (fun c => absurd c (by decide)) (fun _ => ?_)⟩
      have lss : ss.length ≤ 3 := by rw [hl]; exact wR_le R _
      refine ⟨_, rfl, _, rfl, bb, _, rfl, .inl (SqT.of (s5 _ _ w2)), _, rfl, le_line (by rw [List.length_append, nI_len]; show ss.length + 1 ≤ 10000000; omega), fun v hv => ?_⟩
      have s6 := (Same.refl H5).upd_new (o := .tup (nI ss ++ [.int ((s : Nat) : Int)])) hv
      have v6 : (upd H5 v (.tup (nI ss ++ [.int ((s : Nat) : Int)]))) v = some (.tup (nI (ss ++ [s]))) := by rw [upd_same, nI_snoc]
      have v6' : H5 v = none := hv
      refine ⟨m, v, ss ++ [s], rfl, v6, by rw [List.length_append]; show ss.length + 1 ≤ 1000; omega, fun y hy => ?_, fun H7 s7 => ⟨_, rfl, ifn (by decide) ?_⟩⟩
      · rcases List.mem_append.mp hy with h | h
        · exact hlt y h
        · rw [List.mem_singleton.mp h]; exact gs
      have s57 := s6.trans s7
      have T7 := T5.same s57
      have gT7 : DGet H7 D (.str z) (some (.ref a)) := by
        have := DGet.k (k := .inr z) T7.at_
        rw [tn_val R.nd hk hda] at this
        exact this
      have a7 := T7.row k z a hk hda
      have w7 := s57 _ _ (s5 _ _ w2)
      refine ⟨_, rfl, _, rfl, _, rfl, D, _, rfl, gT7, _, rfl, a, _, rfl, DPut.t (k := tkey ss) a7 (by rw [w7, tkey_V]) ?_, ?_⟩
      · unfold cz
        rw [List.length_map]
        exact lt_line (Nat.le_trans (List.length_filter_le _ _) (by rw [List.length_take]; omega))
      refine ⟨_, _, _, _, rfl, (s05.trans s57).upd_own fa, ?_⟩
      have := T7.put (e := (z, ss, s)) R.nd fr hk hda
      rw [List.take_add_one, hqi]
      exact this
    · rintro σ H4 ⟨x4, x5, x6, x7, rfl, s4, T4⟩
      rw [lus, List.take_length] at T4
      exact ⟨_, rfl, key H4 D ds s4 T4⟩
end

theorem BedAt.kx {C x D dx : Addr} {H H' : Hp} {b : Addr} {rows : List Row} (B : BedAt C H b rows) (hx : H x = some (.ins D dx [])) (k : Kp x H H') : BedAt C H' b rows := by
  obtain ⟨dx', r, kk, w, rk, ts, h1, h2, h3, h4, h5, h6⟩ := B
  exact ⟨dx', r, kk, w, rk, ts, k _ _ h1 (ne_of h1 hx (fun e => by unfold bedF at e; cases e)), k _ _ h2 (ne_of h2 hx (fun e => nomatch e)), h3.keep (fun t xs q => k _ _ q (ne_of q hx (fun e => nomatch e))),
    k _ _ h4 (ne_of h4 hx (fun e => nomatch e)), k _ _ h5 (ne_of h5 hx (fun e => nomatch e)), k _ _ h6 (ne_of h6 hx (fun e => nomatch e))⟩
def rdF (b : Addr) (m : Nat) (d mt : Addr) (o : Nat) : List (Str × V) := [("bed", .ref b), ("states", .int ((m : Nat) : Int)), ("cells", .ref d), ("marks", .ref mt), ("otherwise", .int ((o : Nat) : Int))]
theorem q_ne : ¬ ("bed" : Str) = "states" ∧ ¬ ("bed" : Str) = "cells" ∧ ¬ ("bed" : Str) = "marks" ∧ ¬ ("bed" : Str) = "otherwise" ∧ ¬ ("states" : Str) = "cells" ∧ ¬ ("states" : Str) = "marks" ∧ ¬ ("states" : Str) = "otherwise" ∧ ¬ ("cells" : Str) = "marks" ∧ ¬ ("cells" : Str) = "otherwise" ∧ ¬ ("marks" : Str) = "otherwise" := by decide +kernel
theorem rd_put2 (b : Addr) (m : Int) : putF "states" (.int m) [("bed", .ref b)] = [(("bed" : Str), V.ref b), ("states", .int m)] := by simp [putF, q_ne]
theorem rd_put3 (b d : Addr) (m : Int) : putF "cells" (.ref d) [("bed", .ref b), ("states", .int m)] = [(("bed" : Str), V.ref b), ("states", .int m), ("cells", .ref d)] := by simp [putF, q_ne]
theorem rd_put4 (b d t : Addr) (m : Int) : putF "marks" (.ref t) [("bed", .ref b), ("states", .int m), ("cells", .ref d)] = [(("bed" : Str), V.ref b), ("states", .int m), ("cells", .ref d), ("marks", .ref t)] := by simp [putF, q_ne]
theorem rd_put5 (b d t : Addr) (m o : Nat) : putF "otherwise" (.int (o : Nat)) [("bed", .ref b), ("states", .int ((m : Nat) : Int)), ("cells", .ref d), ("marks", .ref t)] = rdF b m d t o := by simp [putF, q_ne, rdF]
structure RdT (K : PySem.W.Frag) (C : Addr) : Prop where
  cl : Cls K C
  nB : NoAttr K C "bed"
  nS : NoAttr K C "states"
  nC : NoAttr K C "cells"
  nM : NoAttr K C "marks"
  nO : NoAttr K C "otherwise"
def RdAt (C CR : Addr) (H : Hp) (p b : Addr) (rows : List Row) (D : RdD) : Prop := ∃ (dx d mt : Addr) (ds : List Addr), H p = some (.ins CR dx (rdF b D.many d mt D.rest)) ∧ BedAt C H b rows ∧ CzAt H d (rows.map (·.1)) ds D.rws ∧ H mt = some (.tup (nI D.marks))
theorem RdAt.same {C CR : Addr} {H H' : Hp} {p b : Addr} {rows : List Row} {D : RdD} (x : RdAt C CR H p b rows D) (s : Same H H') : RdAt C CR H' p b rows D := by
  obtain ⟨dx, d, mt, ds, h1, h2, h3, h4⟩ := x
  exact ⟨dx, d, mt, ds, s _ _ h1, h2.same s, h3.same s, s _ _ h4⟩
def spRdI (C CR : Addr) : Sp := fun vs H Q _ => ∃ (x dx b tR tM : Addr) (us : List Addr) (rows : List Row) (D : RdD), vs = [.ref x, .ref b, .int (D.many : Nat), .ref tR, .ref tM, .int (D.rest : Nat)] ∧ H x = some (.ins CR dx []) ∧ BedAt C H b rows ∧ ROk 4 rows ∧ D.Ok rows ∧ H tR = some (.tup (us.map V.ref)) ∧ RwAt H us D.rws ∧ H tM = some (.tup (nI D.marks)) ∧ ∀ H', Kp x H H' → RdAt C CR H' x b rows D → Q .non H'
abbrev N_Reader_init__ : List Str := ["self", "bed", "states", "rows", "marks", "otherwise", "table"]
theorem sc_Reader_init__ : FnScope N_Reader_init__ ["self", "bed", "states", "rows", "marks", "otherwise"] (defScope s_Reader_init__) := ⟨rfl, rfl, rfl, by decide +kernel, rfl, by decide +kernel, by decide +kernel⟩
section
variable {P : Program} {w : World} {K : PySem.W.Frag} {mg : Str → Option Value} {base : Heap} {C CR : Addr}
theorem body_rdI (T : Bl mg) (B : BedT K C) (BR : RdT K CR) (c_check_states : DefOk P w K mg base CX0 1 "check_states" spStates52) (c_are_states : DefOk P w K mg base CX0 1 "are_states" spAre52) (c_check_marks : DefOk P w K mg base CX0 1 "check_marks" spMarks52) (c_rows_by_kind : DefOk P w K mg base CX0 2 "rows_by_kind" (spByKind52 C)) {f0 : Addr} {cdv : Value} {A' : Around} {outer : List Env} {s' : Shared} {H : Hp} {vs : List V} {Q : VK} {E : XK} (hr : Room 3 (A'.deeper (envOfC "Reader.__init__" (defScope s_Reader_init__) s'.heap.objs.size f0 cdv))) (h : spRdI C CR vs H Q E) :
    ∃ t, PSs (cxOf CX0 P w K mg base N_Reader_init__ "Reader.__init__" (defScope s_Reader_init__) f0 cdv A' outer s' H E) (defBody s_Reader_init__) t ∧ t { nx := fun _ H' => Q .non H', rt := Q } (start N_Reader_init__ vs) H := by
  obtain ⟨x, dx, b, tR, tM, us, rows, D, rfl, hx, hB, R, O, hR, hW, hM, key⟩ := h
  have hu := hu_of hr
  refine ⟨_, (pss_cons (ps_expr (pe_d c_check_states (hr.mono (by decide)) pass0 (pa_cons (pv 2) pa_nil)))
    (pss_cons (ps_set (i := 6) sc_Reader_init__.nd rfl (Or.inl rfl) (pe_d c_rows_by_kind (hr.mono (by decide)) pass0 (pa_cons (pv 1) (pa_cons (pv 2) (pa_cons (pv 3) pa_nil)))))
    (pss_cons (ps_expr (pe_d c_check_marks (hr.mono (by decide)) pass0 (pa_cons (pv 2) (pa_cons (pv 4) pa_nil))))
    (pss_cons (ps_if (pt_not (pt_val (pe_d c_are_states (hr.mono (by decide)) pass0 (pa_cons (pv 2) (pa_cons (pe_tup (pa_cons (pv 5) pa_nil)) pa_nil)))))
      (pss_one ps_never)
      pss_nil)
    (pss_cons (ps_fld (pv 0) (pv 1) rfl)
    (pss_cons (ps_fld (pv 0) (pv 2) rfl)
    (pss_cons (ps_fld (pv 0) (pv 6) rfl)
    (pss_cons (ps_fld (pv 0) (pv 4) rfl)
    (pss_one (ps_fld (pv 0) (pv 5) rfl)))))))))), ?_⟩
  refine ⟨_, rfl, D.many, rfl, O.m1, O.m3, ?_⟩
  refine ⟨_, rfl, _, rfl, _, rfl, b, tR, us, D.many, rows, D.rws, rfl, hB, R, .of hR, hW, O.nd, O.rl, fun e he => ⟨by rw [← O.ks]; exact List.mem_map.mpr ⟨e, O.sub e he, rfl⟩, O.lt e (O.sub e he)⟩, fun H1 d ds s1 T1 => ?_⟩
  refine ⟨_, rfl, _, rfl, D.many, tM, D.marks, rfl, .of (s1 _ _ hM), O.mks, O.ml, ?_⟩
  refine ⟨_, rfl, _, rfl, le_line (show 1 ≤ 10000000 by decide), fun v hv => ?_⟩
  have s2 := s1.upd_new (o := .tup [.int ((D.rest : Nat) : Int)]) hv
  have v2 : (upd H1 v (.tup [.int ((D.rest : Nat) : Int)])) v = some (.tup (nI [D.rest])) := upd_same
  have T2 := T1.same ((Same.refl H1).upd_new (o := .tup [.int ((D.rest : Nat) : Int)]) hv)
  generalize upd H1 v (.tup [.int ((D.rest : Nat) : Int)]) = H2 at s2 v2 T2
  refine ⟨D.many, v, [D.rest], rfl, v2, (show 1 ≤ 1000 by decide), fun y hy => by rw [List.mem_singleton.mp hy]; exact O.re, fun H3 s3 => ⟨_, rfl, ifn (by decide) ?_⟩⟩
  have s03 := s2.trans s3
  have T3 := T2.same s3
  refine ⟨_, rfl, _, rfl, x, CR, dx, _, rfl, s03 _ _ hx, BR.cl, BR.nB, (by show 0 < 1000; decide), ?_⟩
  refine ⟨_, rfl, _, rfl, x, CR, dx, _, rfl, upd_same, BR.cl, BR.nS, (by show 1 < 1000; decide), ?_⟩
  rw [show putF "bed" (.ref b) [] = [(("bed" : Str), V.ref b)] from rfl, rd_put2]
  refine ⟨_, rfl, _, rfl, x, CR, dx, _, rfl, upd_same, BR.cl, BR.nC, (by show 2 < 1000; decide), ?_⟩
  rw [rd_put3]
  refine ⟨_, rfl, _, rfl, x, CR, dx, _, rfl, upd_same, BR.cl, BR.nM, (by show 3 < 1000; decide), ?_⟩
  rw [rd_put4]
  refine ⟨_, rfl, _, rfl, x, CR, dx, _, rfl, upd_same, BR.cl, BR.nO, (by show 4 < 1000; decide), ?_⟩
  rw [rd_put5]
  have kx : Kp x H3 (upd (upd (upd (upd (upd H3 x (.ins CR dx [(("bed" : Str), V.ref b)])) x (.ins CR dx [(("bed" : Str), V.ref b), ("states", .int ((D.many : Nat) : Int))])) x (.ins CR dx [(("bed" : Str), V.ref b), ("states", .int ((D.many : Nat) : Int)), ("cells", .ref d)])) x (.ins CR dx [(("bed" : Str), V.ref b), ("states", .int ((D.many : Nat) : Int)), ("cells", .ref d), ("marks", .ref tM)])) x (.ins CR dx (rdF b D.many d tM D.rest))) := (((((Kp.refl x H3).upd).upd).upd).upd).upd
  refine key _ ((Kp.same s03).trans kx) ⟨dx, d, tM, ds, upd_same, (hB.same s03).kx (s03 _ _ hx) kx, ?_, ?_⟩
  · have nx : ∀ {a : Addr} {o : HO}, H3 a = some o → (∀ C dx fs, o ≠ .ins C dx fs) → a ≠ x := fun {a} {o} h n e => by
      rw [e, s03 _ _ hx] at h
      exact n _ _ _ (Option.some.inj h).symm
    exact ⟨kx _ _ T3.at_ (nx T3.at_ fun _ _ _ e => nomatch e), T3.len, T3.nd, T3.nin, fun i n a h1 h2 => kx _ _ (T3.row i n a h1 h2) (nx (T3.row i n a h1 h2) fun _ _ _ e => nomatch e)⟩
  · exact kx _ _ (s03 _ _ hM) (ne_of (s03 _ _ hM) (s03 _ _ hx) (fun e => nomatch e))
end
def RdC (P : Program) (w : World) (K : PySem.W.Frag) (mg : Str → Option Value) (base : Heap) (C CR : Addr) (k : Nat) : Prop := mg "Reader" = some (.ref CR) ∧ ∃ fI fd ds, Mk K CR fI ∧ FnOk P w K mg base CX0 k fI fd ["self", "bed", "states", "rows", "marks", "otherwise"] (spRdI C CR) ∧ Binds K fd ["self", "bed", "states", "rows", "marks", "otherwise"] ds ∧ Vals [.int 0] ds ∧ KBn K fd ["self", "bed", "states", "rows", "marks", "otherwise"] 5 (["otherwise"] : List Str) (fun us ws => us ++ ws) (fun vs zs => vs ++ zs)
theorem pe_reader {X : Cx} {C CR : Addr} {k : Nat} {e : Expr} {es : List Expr} {t : TA} {p pos : Pos} (D : RdC X.prog X.w X.K X.mg X.base C CR k) (hr : Room (k + 1) X.A) (ha : PA X (e :: es) t) (hg : Gl X "Reader" := by rfl)
    (he : starEach (e :: es) X.env = (false, eval e X.env) :: starEach es X.env := by rfl) (hpl : (backTo pos (starEach es X.env)).any (·.1) = false := by rfl) :
    PE X (.Call (.Name "Reader" p) (e :: es) [] pos) (tMake CR (spRdI C CR) [.int 0] E0 t) := by
  obtain ⟨hm, fI, fd, ds, M, F, hb, hd, hk⟩ := D
  exact pe_make M F hr hg hm hb hd pass0 ha (by decide) he hpl
theorem pe_readerK {X : Cx} {C CR : Addr} {k : Nat} {e : Expr} {es : List Expr} {kws : List Keyword} {t tk : TA} {p pos : Pos} (D : RdC X.prog X.w X.K X.mg X.base C CR k) (hr : Room (k + 1) X.A) (ha : PA X (e :: es) t) (hkw : PK X kws tk) (hg : Gl X "Reader" := by rfl)
    (hall : (backToKw pos (keywordEach kws X.env)).all (·.1.isSome) = true := by rfl) (hks : (backToKw pos (keywordEach kws X.env)).filterMap (·.1) = (["otherwise"] : List Str) := by rfl)
    (he : starEach (e :: es) X.env = (false, eval e X.env) :: starEach es X.env := by rfl) (hpl : ((backTo pos (starEach (e :: es) X.env)).any (·.1) || (backToKw pos (keywordEach kws X.env)).any (·.1.isNone)) = false := by rfl) :
    PE X (.Call (.Name "Reader" p) (e :: es) kws pos) (tMakeK CR 4 1 (spRdI C CR) (fun vs zs => vs ++ zs) E0 t tk) := by
  obtain ⟨hm, fI, fd, ds, M, F, hb, hd, hk⟩ := D
  exact pe_makeK M F hr hg hm hk pass0 ha hkw hall hks (by decide) he hpl
end Sh
end
section
set_option Elab.async false
set_option linter.all false
set_option maxRecDepth 100000
set_option maxHeartbeats 4000000
namespace Sh
open PySem PySem.Spec PyProof.Rows L2
open C8 (pss_cut tCut)
open Evl (ixN_nat)
theorem ways_pow (m : Nat) : ∀ i, (ways (List.replicate i (List.range m))).length = m ^ i := fun i => by
  induction i with
  | zero => rfl
  | succ i ih => rw [List.replicate_succ', ways_snoc, wstep_len, ih, List.length_range, Nat.pow_succ]
theorem wstep_leM {f : List (List Nat)} {l : List Nat} {w : List Nat} {j k : Nat} (hj : j < f.length) (hk : k ≤ l.length) (hf : f.length ≤ 4000) (hl : l.length ≤ 100) : (wstep (f.take j) l ++ (l.take k).map fun s => w ++ [s]).length ≤ 1000000 := by
  rw [List.length_append, wstep_len, List.length_map, List.length_take, List.length_take, Nat.min_eq_left (by omega)]
  have : j * l.length ≤ 4000 * 100 := Nat.mul_le_mul (by omega) hl
  omega
def spTuples6 : Sp := fun vs H Q _ => ∃ (many n : Nat), vs = [.int (many : Nat), .int (n : Nat)] ∧ many ≤ 100 ∧ n ≤ 3 ∧ (∀ i, i < n → many ^ i ≤ 4000) ∧ ∀ H' L, Same H H' → H L = none → WaysAt H' L (ways (List.replicate n (List.range many))) → Q (.ref L) H'
def spMarks6 : Sp := fun vs H Q _ => ∃ (x : Addr) (m : Nat), vs = [.ref x, .int (m : Nat)] ∧ BxT H x ∧ m ≤ 100 ∧ ∀ H' (t : Addr) (ms : List Nat), Kp x H H' → BxT H' x → H' t = some (.tup (nI ms)) → ms.Pairwise (· < ·) → (∀ s ∈ ms, s < m) → Q (.ref t) H'
abbrev N_law_tuples : List Str := ["many", "length", "found", "turn", "longer", "start", "k"]
theorem sc_law_tuples : FnScope N_law_tuples ["many", "length"] (defScope s_law_tuples) := ⟨rfl, rfl, rfl, by decide +kernel, rfl, by decide +kernel, by decide +kernel⟩
abbrev N_law_marks : List Str := ["box", "states", "choice", "marks", "state", "bit"]
theorem sc_law_marks : FnScope N_law_marks ["box", "states"] (defScope s_law_marks) := ⟨rfl, rfl, rfl, by decide +kernel, rfl, by decide +kernel, by decide +kernel⟩
section
variable {P : Program} {w : World} {K : PySem.W.Frag} {mg : Str → Option Value} {base : Heap}
theorem ok_tuples6 (T : Bl mg) (D : Def0 K mg "_law_tuples" s_law_tuples) : DefOk P w K mg base CX0 1 "_law_tuples" spTuples6 := by
  refine D.ok sc_law_tuples (fun vs H Q E h => ?_) (fun _ _ _ _ _ _ us hl => match us, hl with | [_, _], _ => rfl) (fun f cdv A outer s' H vs Q E hr h => ?_)
  · obtain ⟨many, n, rfl, _⟩ := h
    rfl
  · obtain ⟨many, n, rfl, hm, hn, hpow, k⟩ := h
    refine ⟨_, (pss_cons (ps_set (i := 2) sc_law_tuples.nd rfl (Or.inl rfl) (pe_lst (pa_cons (pe_tup pa_nil) pa_nil)))
      (pss_cons (ps_for PassesOwn.never rfl (pi_range1 (by rfl) T.b_range (pa_cons (pv 1) pa_nil)) (pg_name (i := 3) sc_law_tuples.nd rfl (Or.inl rfl))
        (pss_cons (ps_set (i := 4) sc_law_tuples.nd rfl (Or.inl rfl) (pe_lst pa_nil))
        (pss_cons (ps_for PassesOwn.never rfl (pi_list (pv 2)) (pg_name (i := 5) sc_law_tuples.nd rfl (Or.inr rfl))
          (pss_one (ps_expr (pe_bm PySem.F.plainAttrs_list PySem.F.slot_list_extend PySem.F.type_list_extend mt_extend (pv 4) (pa_cons (pe_lc (own := [("k", 6)]) (g := (gName 6)) (tt := tYes) rfl sc_law_tuples.nd (pi_range1 (by rfl) T.b_range (pa_cons (pv 0) pa_nil)) (blkOk_by (N := N_law_tuples) (sc := defScope s_law_tuples) (by decide +kernel)) (fun _ _ _ _ _ => (pg_name (i := 6) sc_law_tuples.nd rfl (Or.inl rfl))) (fun _ _ _ _ _ => pts_nil) (fun _ _ _ _ _ => (pe_op (show OpR _ _ (rCatA K) from op_catA) (pv 5) (pe_tup (pa_cons (pv 6) pa_nil))))) pa_nil)))))
        (pss_one (ps_set (i := 2) sc_law_tuples.nd rfl (Or.inl rfl) (pv 4))))))
      (pss_one (ps_ret (pv 2))))), ?_⟩
    refine ⟨le_line (show 0 ≤ 10000000 by decide), fun t ht => ?_⟩
    have s1 := (Same.refl H).upd_new (o := .tup []) ht
    have t1 : (upd H t (.tup [])) t = some (.tup (nI [])) := upd_same
    generalize upd H t (.tup []) = H1 at s1 t1
    refine ⟨le_line (show 1 ≤ 10000000 by decide), fun F hF => ?_⟩
    have s2 := s1.upd_new (o := .lst [.ref t]) hF
    have F2 : (upd H1 F (.lst [.ref t])) F = some (.lst ([t].map V.ref)) := upd_same
    have t2 : (upd H1 F (.lst [.ref t])) t = some (.tup (nI [])) := by rw [upd_ne (ne_of_none t1 hF)]; exact t1
    generalize upd H1 F (.lst [.ref t]) = H2 at s2 F2 t2
    refine ⟨_, rfl, _, rfl, by omega, by omega, ?_⟩
    rw [Int.toNat_natCast]
    refine for_range (n := n) (fun i σ H' => ∃ (x3 x4 x5 x6 : Option V) (F : Addr), σ = [some (.int (many : Nat)), some (.int (n : Nat)), some (.ref F), x3, x4, x5, x6] ∧ Same H H' ∧ H F = none ∧ WaysAt H' F (ways (List.replicate i (List.range many))))
      ⟨none, none, none, none, F, rfl, s2, s1.free hF, [t], F2, .one t2⟩ ?_ ?_
    · rintro i σ H3 hi ⟨x3, x4, x5, x6, F3, rfl, s3, _, us, hus, hP⟩
      have lw : (ways (List.replicate i (List.range many))).length ≤ 4000 := by
        rw [ways_pow]
        exact hpow i hi
      have er : ways (List.replicate (i + 1) (List.range many)) = wstep (ways (List.replicate i (List.range many))) (List.range many) := by rw [← ways_snoc, List.replicate_succ']
      have lf : ∀ z ∈ ways (List.replicate i (List.range many)), z.length ≤ 3 := fun z hz => by
        rw [(ways_mem.mp hz).1, List.length_replicate]
        omega
      generalize ways (List.replicate i (List.range many)) = f at hP lw er lf
      refine ⟨le_line (show 0 ≤ 10000000 by decide), fun W hW => ?_⟩
      have s4 := s3.upd_new (o := .lst []) hW
      have W4 : (upd H3 W (.lst [])) W = some (.lst (([] : List Addr).map V.ref)) := upd_same
      have nWF : F3 ≠ W := ne_of_none hus hW
      have F4 : (upd H3 W (.lst [])) F3 = some (.lst (us.map V.ref)) := by rw [upd_ne nWF]; exact hus
      have P4 := hP.keep (H' := upd H3 W (.lst [])) fun t ys h => by rw [upd_ne (ne_of_none h hW)]; exact h
      have nW : H W = none := s3.free hW
      generalize upd H3 W (.lst []) = H4 at s4 W4 F4 P4
      have lus : (us.map V.ref).length = f.length := by rw [List.length_map, P4.1]
      refine ⟨_, rfl, F3, rfl, ⟨_, SqL.of F4⟩, for_list (xs := us.map V.ref) (fun j σ H' => ∃ (x3 x5 x6 : Option V) (ws : List Addr), σ = [some (.int (many : Nat)), some (.int (n : Nat)), some (.ref F3), x3, some (.ref W), x5, x6] ∧ Same H H' ∧ H' F3 = some (.lst (us.map V.ref)) ∧ PlAt nI H' us f ∧ H' W = some (.lst (ws.map V.ref)) ∧ PlAt nI H' ws (wstep (f.take j) (List.range many)))
        ⟨_, x5, x6, [], rfl, s4, F4, P4, W4, .nil⟩ (fun i σ H' _ ⟨_, _, _, _, _, _, h, _⟩ => SqL.of h) ?_ ?_⟩
      · rintro j v σ H5 hv ⟨x3, x5, x6, ws, rfl, s5, F5, P5, W5, R5⟩
        obtain ⟨u, hu, rfl⟩ := get_map_r hv
        have hjl : j < f.length := by rw [← P5.1]; exact (List.getElem?_eq_some_iff.mp hu).1
        have hf := List.getElem?_eq_getElem hjl
        generalize f[j] = row at hf
        have hu5 := P5.2 j u row hu hf
        have lr := lf row (List.mem_of_getElem? hf)
        refine ⟨_, rfl, .inl ⟨rfl, _, SqL.of W5⟩, _, rfl, _, rfl, by omega, by omega, fun D hD => ?_⟩
        rw [Int.toNat_natCast]
        refine lc_it (walk_range (lo := 0) (n := many)) (fun k H' => Same H5 H' ∧ ∃ ds : List Addr, H' D = some (.lst (ds.map V.ref)) ∧ PlAt nI H' ds (((List.range many).take k).map fun s => row ++ [s]))
          ⟨(Same.refl H5).upd_new hD, [], upd_same, by rw [List.take_zero]; exact .nil⟩ (fun _ _ _ _ => True.intro) ?_ ?_
        · rintro k v H6' H6 hk ⟨s6, ds, D6, R6⟩ ⟨rfl, rfl⟩
          have e0 : (0 : Int) + ((k : Nat) : Int) = ((k : Nat) : Int) := by omega
          have hs : (List.range many)[k]? = some k := List.getElem?_range hk
          have hu6 := s6 _ _ hu5
          refine ⟨rfl, _, rfl, _, rfl, le_line (show 1 ≤ 10000000 by decide), fun q hq => ?_⟩
          have ev : (fun i : Nat => V.int ((0 : Int) + ((i : Nat) : Int))) k = V.int ((k : Nat) : Int) := by show V.int _ = _; rw [e0]
          rw [ev]
          have s7 := (Same.refl H6).upd_new (o := .tup [.int ((k : Nat) : Int)]) hq
          have q7 : (upd H6 q (.tup [.int ((k : Nat) : Int)])) q = some (.tup [.int ((k : Nat) : Int)]) := upd_same
          generalize upd H6 q (.tup [.int ((k : Nat) : Int)]) = H7 at s7 q7
          refine catA_n (s7 _ _ hu6) q7 (by rw [nI_len]; show row.length + 1 ≤ _; omega) fun r H8 s8 hr8 => ?_
          rw [nI_snoc] at hr8
          have s68 := s7.trans s8
          have D8 := s68 _ _ D6
          have R8 := R6.keep fun t ys h => s68 _ _ h
          refine ⟨_, D8, by rw [List.length_map, R8.1, List.length_map, List.length_take]; exact lt_line (n := min k _) (by omega), (s6.trans s68).upd_own hD, ds ++ [r], by rw [upd_same, List.map_append]; rfl, ?_⟩
          rw [wmap_take hs]
          exact (R8.snoc hr8).keep fun t ys h => by rw [upd_ne (ne_of h D8 (fun e => nomatch e))]; exact h
        · rintro H6 ⟨s6, ds, D6, R6⟩
          rw [List.take_of_length_le (by rw [List.length_range]; omega)] at R6
          have W6 := s6 _ _ W5
          have lfull := wstep_leM (w := row) (j := j) (k := many) (l := List.range many) hjl (by rw [List.length_range]; omega) lw (by rw [List.length_range]; omega)
          rw [List.take_of_length_le (l := List.range many) (by rw [List.length_range]; omega)] at lfull
          refine ⟨W, D, _, _, rfl, rfl, W6, D6, ?_, ?_⟩
          · rw [List.length_map, List.length_map, R5.1, R6.1, ← List.length_append]
            exact le_line (by omega)
          · have kt : ∀ t ys, H6 t = some (.tup ys) → (upd H6 W (.lst (ws.map V.ref ++ ds.map V.ref))) t = some (.tup ys) := fun t ys h => by rw [upd_ne (ne_of h W6 (fun e => nomatch e))]; exact h
            refine ⟨_, _, _, ws ++ ds, rfl, (s5.trans s6).upd_own nW, by rw [upd_ne nWF]; exact s6 _ _ F5, (P5.keep fun t ys h => s6 _ _ h).keep kt, by rw [upd_same, List.map_append], ?_⟩
            rw [wstep_take hf]
            exact ((R5.keep fun t ys h => s6 _ _ h).app R6).keep kt
      · rintro σ H5 ⟨x3, x5, x6, ws, rfl, s5, F5, P5, W5, R5⟩
        rw [lus, List.take_length, ← er] at R5
        exact ⟨_, rfl, _, _, _, _, W, rfl, s5, nW, ws, W5, R5⟩
    · rintro σ H3 ⟨x3, x4, x5, x6, F3, rfl, s3, nF, W3⟩
      exact ⟨_, rfl, k _ _ s3 nF W3⟩
theorem ok_lmarks6 (T : Bl mg) (c_law_take : DefOk P w K mg base CX0 1 "_law_take" spTake) (D : Def0 K mg "_law_marks" s_law_marks) : DefOk P w K mg base CX0 2 "_law_marks" spMarks6 := by
  refine D.ok sc_law_marks (fun vs H Q E h => ?_) (fun _ _ _ _ _ _ us hl => match us, hl with | [_, _], _ => rfl) (fun f cdv A outer s' H vs Q E hr h => ?_)
  · obtain ⟨x, m, rfl, _⟩ := h
    rfl
  · obtain ⟨x, m, rfl, hx, hm, k⟩ := h
    refine ⟨_, (pss_cons (ps_set (i := 2) sc_law_marks.nd rfl (Or.inl rfl) (pe_d c_law_take (hr.mono (by decide)) pass0 (pa_cons (pv 0) (pa_cons pe_int pa_nil))))
      (pss_cons (ps_set (i := 3) sc_law_marks.nd rfl (Or.inl rfl) (pe_lst pa_nil))
      (pss_cons (ps_for PassesOwn.never rfl (pi_range1 (by rfl) T.b_range (pa_cons (pv 1) pa_nil)) (pg_name (i := 4) sc_law_marks.nd rfl (Or.inl rfl))
        (pss_cons (ps_set (i := 5) sc_law_marks.nd rfl (Or.inl rfl) (pe_d c_law_take (hr.mono (by decide)) pass0 (pa_cons (pv 0) (pa_cons pe_int pa_nil))))
        (pss_one (ps_if (PW.pt (pw_or (pt_cmpR op_eq (pv 2) pe_int (nomark _)) (pw_or1 (PW.pt (pw_and (pt_cmpR op_gt (pv 2) pe_int (nomark _)) (pw_and1 (pt_cmpR op_gt (pv 5) pe_int (nomark _))))))))
          (pss_one (ps_expr (pe_bm PySem.F.plainAttrs_list PySem.F.slot_list_append PySem.F.type_list_append mt_append (pv 3) (pa_cons (pv 4) pa_nil))))
          pss_nil))))
      (pss_one (ps_ret (pe_callTy call_tuple_of (by rfl) T.b_tuple (by decide +kernel) (pa_cons (pv 3) pa_nil))))))), ?_⟩
    refine ⟨_, rfl, x, 8, rfl, hx, by decide, by decide, fun H1 c k1 b1 c8 => ?_⟩
    refine ⟨le_line (show 0 ≤ 10000000 by decide), fun S hS0 => ?_⟩
    have hS := k1.freeT b1 hS0
    have nS := b1.ne hS0
    have k02 := k1.upd_new (o := .lst []) hS0
    have b2 := b1.new (o := .lst []) hS0
    have e2 : (upd H1 S (.lst [])) S = some (.lst (nI [])) := upd_same
    generalize upd H1 S (.lst []) = H2 at k02 b2 e2
    refine ⟨_, rfl, _, rfl, by omega, by omega, ?_⟩
    rw [Int.toNat_natCast]
    refine for_range (n := m) (fun i σ H' => ∃ (x4 x5 : Option V) (ms : List Nat), σ = [some (.ref x), some (.int (m : Nat)), some (.int (c : Nat)), some (.ref S), x4, x5] ∧ Kp x H H' ∧ BxT H' x ∧ H' S = some (.lst (nI ms)) ∧ ms.Pairwise (· < ·) ∧ (∀ s ∈ ms, s < i) ∧ ms.length ≤ i)
      ⟨none, none, [], rfl, k02, b2, e2, List.Pairwise.nil, (fun s h => nomatch h), Nat.le_refl _⟩ ?_ ?_
    · rintro i σ H3 hi ⟨x4, x5, ms, rfl, k3, b3, e3, pw, lt, ll⟩
      refine ⟨_, rfl, x, 3, rfl, b3, by decide, by decide, fun H4 d k4 b4 d3 => ?_⟩
      have k04 := k3.trans k4
      have e4 := k4 _ _ e3 nS
      have e0 : (0 : Int) + ((i : Nat) : Int) = ((i : Nat) : Int) := by omega
      have no : ∀ x4 : Option V, ∃ (x4 x5 : Option V) (ms : List Nat), [some (V.ref x), some (.int (m : Nat)), some (.int (c : Nat)), some (.ref S), some (.int (0 + ((i : Nat) : Int))), some (.int (d : Nat))] = [some (.ref x), some (.int (m : Nat)), some (.int (c : Nat)), some (.ref S), x4, x5] ∧ Kp x H H4 ∧ BxT H4 x ∧ H4 S = some (.lst (nI ms)) ∧ ms.Pairwise (· < ·) ∧ (∀ s ∈ ms, s < i + 1) ∧ ms.length ≤ i + 1 :=
        fun _ => ⟨_, _, ms, rfl, k04, b4, e4, pw, fun s hs => Nat.lt_succ_of_lt (lt s hs), by omega⟩
      have yes : ∃ (x4 x5 : Option V) (ms1 : List Nat), [some (V.ref x), some (.int (m : Nat)), some (.int (c : Nat)), some (.ref S), some (.int (0 + ((i : Nat) : Int))), some (.int (d : Nat))] = [some (.ref x), some (.int (m : Nat)), some (.int (c : Nat)), some (.ref S), x4, x5] ∧ Kp x H (upd H4 S (.lst (nI ms ++ [.int (0 + ((i : Nat) : Int))]))) ∧ BxT (upd H4 S (.lst (nI ms ++ [.int (0 + ((i : Nat) : Int))]))) x ∧ (upd H4 S (.lst (nI ms ++ [.int (0 + ((i : Nat) : Int))]))) S = some (.lst (nI ms1)) ∧ ms1.Pairwise (· < ·) ∧ (∀ s ∈ ms1, s < i + 1) ∧ ms1.length ≤ i + 1 := by
        refine ⟨_, _, ms ++ [i], rfl, k04.upd_own hS, b4.upd_ne nS, by rw [upd_same, e0, nI_snoc], ?_, fun s hs => ?_, by rw [List.length_append]; show ms.length + 1 ≤ _; omega⟩
        · exact List.pairwise_append.mpr ⟨pw, List.pairwise_singleton _ _, fun a ha b hb => by rw [List.mem_singleton.mp hb]; exact lt a ha⟩
        · rcases List.mem_append.mp hs with h | h
          · exact Nat.lt_succ_of_lt (lt s h)
          · rw [List.mem_singleton.mp h]; exact Nat.lt_succ_self _
      refine ⟨_, rfl, rfl, _, rfl, ite2 (fun _ => ?_) (fun _ => ⟨_, rfl, _, _, rfl, rfl, _, rfl, ite2 (fun _ => ⟨_, rfl, _, _, rfl, rfl, _, rfl, ite2 (fun _ => ?_) (fun _ => no none)⟩) (fun _ => no none)⟩)⟩
      · exact ⟨_, rfl, .inl ⟨rfl, _, SqL.of e4⟩, _, rfl, S, _, _, rfl, rfl, e4, by rw [nI_len]; exact lt_line (by omega), yes⟩
      · exact ⟨_, rfl, .inl ⟨rfl, _, SqL.of e4⟩, _, rfl, S, _, _, rfl, rfl, e4, by rw [nI_len]; exact lt_line (by omega), yes⟩
    · rintro σ H3 ⟨x4, x5, ms, rfl, k3, b3, e3, pw, lt, ll⟩
      refine ⟨_, rfl, S, _, rfl, .inl ⟨SqL.of e3, fun t ht => ?_⟩⟩
      exact k _ t ms (k3.upd_new ht) (b3.new ht) upd_same pw lt
end
end Sh
end
section
set_option Elab.async false
set_option linter.all false
set_option maxRecDepth 100000
set_option maxHeartbeats 8000000
namespace L2
open PySem PySem.Spec PyProof.Rows
theorem NT.old {H : Hp} {kvs : List (NKey × V)} {xs : List (NKey × Addr × Value)} (r : NT H kvs xs) {k : NKey} {y : V} {u : Value} (ry : RelV y u) : NT H (kvs.map fun kv => if kv.1 = k then (kv.1, y) else kv) (xs.map (putAt k u)) := by
  induction r with
  | nil => exact .nil
  | @cons p q ps qs h t ih =>
    obtain ⟨h1, h2, h3⟩ := h
    rw [List.map_cons, List.map_cons]
    refine .cons ?_ ih
    unfold putAt
    by_cases e : p.1 = k
    · rw [if_pos e, if_pos (h1.symm.trans e)]
      exact ⟨h1, h2, ry⟩
    · rw [if_neg e, if_neg (fun z => e (h1.trans z))]
      exact ⟨h1, h2, h3⟩
theorem NT.put {H : Hp} {kvs : List (NKey × V)} {xs : List (NKey × Addr × Value)} (r : NT H kvs xs) {k : NKey} {b : Addr} {y : V} {u : Value} (hb : NKAt H k b) (ry : RelV y u) : NT H (putK kvs k y) (storedH xs k b u) := by
  cases hk : valV kvs k with
  | none =>
    rw [putK_new _ hk]
    exact r.new hk hb ry
  | some z =>
    have e := (r.val k).isSome_eq
    rw [hk, Option.isSome_map] at e
    cases h : atKey xs k with
    | none => rw [h] at e; cases e
    | some p =>
      rw [storedH_old h]
      unfold putK
      rw [valV_any, hk]
      show NT H (if true = true then _ else _) _
      rw [if_pos rfl]
      exact r.old ry
section
variable {X : Cx} {pins : List (Addr × Obj)} {σ : St} {H : Hp} {s : Shared} {A : Around} {E : Value → Shared → Prop} {a b : Addr} {kvs : List (NKey × V)} {k : NKey} {v : V} {r : Value}
end
section
variable {X : Cx} {o i e value : Expr} {pos pos' tpos : Pos} {td ty tv : TE}
end
end L2
namespace Sh
open PySem PySem.Spec PyProof.Rows L2
open C8 (pss_cut tCut)
open Evl (ixN_nat)
theorem vne (a b : Nat) : (!decide (V.int ((a : Nat) : Int) = V.int ((b : Nat) : Int))) = decide (a ≠ b) := by
  by_cases h : a = b
  · subst h
    simp
  · have : ¬ V.int ((a : Nat) : Int) = V.int ((b : Nat) : Int) := fun e => by
      injection e with e
      omega
    simp [h, this]
theorem veq (a b : Int) : decide (V.int a = V.int b) = decide (a = b) := by
  by_cases h : a = b
  · subst h
    simp
  · have : ¬ V.int a = V.int b := fun e => by
      injection e with e
      exact h e
    simp [h, this]
theorem BxT.tk {H H' : Hp} {x : Addr} (b : BxT H x) (k : Kp x H H') : TK H H' := fun t ys h => k _ _ h fun e => by
  obtain ⟨y, z, c, hb⟩ := b
  rw [e, hb] at h
  cases h
theorem BxT.ne_tup {H : Hp} {x t : Addr} {ys : List V} (b : BxT H x) (h : H t = some (.tup ys)) : t ≠ x := fun e => by
  obtain ⟨y, z, c, hb⟩ := b
  rw [e, hb] at h
  cases h
theorem _root_.L2.NdAt.ne_lst {P : Program} {w : World} {H : Hp} {a b : Addr} {kvs : List (NKey × V)} {ys : List V} (x : NdAt P w H a kvs) (h : H b = some (.lst ys)) : a ≠ b := fun e => by
  obtain ⟨_, _, xs, _, hx⟩ := x
  rw [e, h] at hx
  cases hx
theorem _root_.L2.NdAt.ne_tup {P : Program} {w : World} {H : Hp} {a b : Addr} {kvs : List (NKey × V)} {ys : List V} (x : NdAt P w H a kvs) (h : H b = some (.tup ys)) : b ≠ a := fun e => by
  obtain ⟨_, _, xs, _, hx⟩ := x
  rw [← e, h] at hx
  cases hx
theorem _root_.L2.NdAt.kx {P : Program} {w : World} {H H' : Hp} {a x : Addr} {kvs : List (NKey × V)} (h : NdAt P w H a kvs) (b : BxT H x) (k : Kp x H H') : NdAt P w H' a kvs := by
  obtain ⟨_, _, _, hb⟩ := id b
  have ne := h.ne_lst hb
  refine h.keeps (b.tk k) ?_
  obtain ⟨_, _, zs, _, hz⟩ := h
  rw [hz, k _ _ hz ne]
theorem _root_.L2.NdAt.upd_l {P : Program} {w : World} {H : Hp} {a l : Addr} {kvs : List (NKey × V)} {ys : List V} {o : HO} (h : NdAt P w H a kvs) (hl : H l = some (.lst ys)) : NdAt P w (upd H l o) a kvs :=
  h.keeps (fun t zs q => by rw [L2.upd_ne (ne_of q hl (fun e => nomatch e))]; exact q) (L2.upd_ne (h.ne_lst hl))
theorem _root_.L2.NdAt.sm {P : Program} {w : World} {H H' : Hp} {a : Addr} {kvs : List (NKey × V)} (h : NdAt P w H a kvs) (s : Same H H') : NdAt P w H' a kvs := by
  refine h.keeps (fun t zs q => s _ _ q) ?_
  obtain ⟨_, _, zs, _, hz⟩ := h
  rw [hz, s _ _ hz]
theorem Kp.but {x T : Addr} {H H1 H2 : Hp} (k : Kp x H H1) (hT : H T = none) (h : ∀ c, c ≠ T → H2 c = H1 c) : Kp x H H2 := fun b o hb hn => by
  rw [h b (fun e => by rw [e, hT] at hb; cases hb)]
  exact k b o hb hn
theorem wq_pow (m : Nat) (q : Row) : (wq m q).length = m ^ q.2.toNat := ways_pow m _
theorem ks_lenM {rows : List Row} {many : Nat} (h : many ≤ 40) (R : ROk 4 rows) : (ksOf rows many).length ≤ 256000 := by
  have hw := R.wd
  have : ∀ l : List Row, (∀ q ∈ l, 0 ≤ q.2 ∧ q.2 ≤ 3) → (ksOf l many).length ≤ 64000 * l.length := fun l => by
    induction l with
    | nil => intro _; exact Nat.le_refl _
    | cons q l ih =>
      intro hl
      unfold ksOf at ih ⊢
      rw [List.flatMap_cons, List.length_append, List.length_map, List.length_cons, wq_pow]
      have h1 := ih fun q hq => hl q (List.mem_cons_of_mem _ hq)
      have h2 := hl q List.mem_cons_self
      have h3 : many ^ q.2.toNat ≤ 40 ^ 3 := Nat.le_trans (Nat.pow_le_pow_left h _) (Nat.pow_le_pow_right (by decide) (by omega))
      have h4 : 40 ^ 3 = 64000 := by decide
      omega
  have h1 := this rows hw
  have h2 := R.len
  omega
theorem ks_take {rows : List Row} {many i : Nat} {q : Row} (hq : rows[i]? = some q) : ksOf (rows.take (i + 1)) many = ksOf (rows.take i) many ++ (wq many q).map (fun s => (q.1, s)) := by
  unfold ksOf
  rw [List.take_add_one, hq, List.flatMap_append]
  show _ ++ (_ ++ []) = _
  rw [List.append_nil]
theorem RwAt.app {H : Hp} {us vs : List Addr} {rs ts : List REnt} (a : RwAt H us rs) (b : RwAt H vs ts) : RwAt H (us ++ vs) (rs ++ ts) := by
  refine ⟨by rw [List.length_append, List.length_append, a.1, b.1], fun i u e h1 h2 => ?_⟩
  by_cases c : i < us.length
  · rw [List.getElem?_append_left c] at h1
    rw [List.getElem?_append_left (by rw [← a.1]; exact c)] at h2
    exact a.2 i u e h1 h2
  · rw [List.getElem?_append_right (by omega)] at h1
    rw [List.getElem?_append_right (by have := a.1; omega), ← a.1] at h2
    exact b.2 _ u e h1 h2
theorem RwAt.take {H : Hp} {us : List Addr} {rs : List REnt} (a : RwAt H us rs) (n : Nat) : RwAt H (us.take n) (rs.take n) := by
  refine ⟨by rw [List.length_take, List.length_take, a.1], fun i u e h1 h2 => ?_⟩
  rw [List.getElem?_take] at h1 h2
  split at h1
  · rename_i c
    rw [if_pos c] at h2
    exact a.2 i u e h1 h2
  · cases h1
theorem RwAt.drop {H : Hp} {us : List Addr} {rs : List REnt} (a : RwAt H us rs) (n : Nat) : RwAt H (us.drop n) (rs.drop n) := by
  refine ⟨by rw [List.length_drop, List.length_drop, a.1], fun i u e h1 h2 => ?_⟩
  rw [List.getElem?_drop] at h1 h2
  exact a.2 _ u e h1 h2
/-- what the making of rows and steps keeps -/
structure RI (P : Program) (w : World) (x T R many rest : Nat) (keys : List (Str × List Nat)) (es rs : List REnt) (us : List Addr) (H H' : Hp) : Prop where
  k : Kp x H H'
  b : BxT H' x
  t : NdAt P w H' T (es.map rkv)
  ks : es.map ek = keys
  lt : ∀ e ∈ es, e.2.2 < many
  r : H' R = some (.lst (us.map V.ref))
  rw : RwAt H' us rs
  sb : rs.Sublist es
  al : ∀ e ∈ es, e ∈ rs ∨ e.2.2 = rest
theorem RI.draw {P : Program} {w : World} {x T R many rest : Nat} {keys : List (Str × List Nat)} {es rs : List REnt} {us : List Addr} {H H1 H2 : Hp} (h : RI P w x T R many rest keys es rs us H H1) (k : Kp x H1 H2) (b : BxT H2 x) (hR : R ≠ x) : RI P w x T R many rest keys es rs us H H2 :=
  ⟨h.k.trans k, b, h.t.kx h.b k, h.ks, h.lt, k _ _ h.r hR, h.rw.keep (h.b.tk k), h.sb, h.al⟩
theorem RI.sm {P : Program} {w : World} {x T R many rest : Nat} {keys : List (Str × List Nat)} {es rs : List REnt} {us : List Addr} {H H1 H2 : Hp} (h : RI P w x T R many rest keys es rs us H H1) (s : Same H1 H2) : RI P w x T R many rest keys es rs us H H2 :=
  ⟨h.k.trans (Kp.same s), h.b.same s, h.t.sm s, h.ks, h.lt, s _ _ h.r, h.rw.keep fun _ _ q => s _ _ q, h.sb, h.al⟩
/-- in the midst of a turn: the row may have been put down already -/
structure RM (P : Program) (w : World) (x T R many rest : Nat) (keys : List (Str × List Nat)) (es rs rs1 : List REnt) (us : List Addr) (e : REnt) (H H' : Hp) : Prop where
  k : Kp x H H'
  b : BxT H' x
  t : NdAt P w H' T (es.map rkv)
  ks : es.map ek = keys
  lt : ∀ e ∈ es, e.2.2 < many
  r : H' R = some (.lst (us.map V.ref))
  rw : RwAt H' us rs1
  sb : rs.Sublist es
  al : ∀ e ∈ es, e ∈ rs ∨ e.2.2 = rest
  w : (rs1 = rs ++ [e]) ∨ (rs1 = rs ∧ e.2.2 = rest)
theorem RI.skip {P : Program} {w : World} {x T R many rest : Nat} {keys : List (Str × List Nat)} {es rs : List REnt} {us : List Addr} {H H1 : Hp} (h : RI P w x T R many rest keys es rs us H H1) {e : REnt} (he : e.2.2 = rest) : RM P w x T R many rest keys es rs rs us e H H1 := ⟨h.k, h.b, h.t, h.ks, h.lt, h.r, h.rw, h.sb, h.al, .inr ⟨rfl, he⟩⟩
theorem RI.app {P : Program} {w : World} {x T R many rest : Nat} {keys : List (Str × List Nat)} {es rs : List REnt} {us : List Addr} {H H1 : Hp} (h : RI P w x T R many rest keys es rs us H H1) (hR0 : H R = none) (hRx : R ≠ x) {e : REnt} {v b : Addr} (hv : H1 v = none) (hb : H1 b = some (.tup (nI e.2.1))) :
    RM P w x T R many rest keys es rs (rs ++ [e]) (us ++ [v]) e H (upd (upd H1 v (.tup [.str e.1, .ref b, .int ((e.2.2 : Nat) : Int)])) R (.lst (us.map V.ref ++ [V.ref v]))) := by
  have s13 := (Same.refl H1).upd_new (o := .tup [.str e.1, .ref b, .int ((e.2.2 : Nat) : Int)]) hv
  have v13 : (upd H1 v (.tup [.str e.1, .ref b, .int ((e.2.2 : Nat) : Int)])) v = some (.tup [.str e.1, .ref b, .int ((e.2.2 : Nat) : Int)]) := upd_same
  generalize upd H1 v (.tup [.str e.1, .ref b, .int ((e.2.2 : Nat) : Int)]) = H13 at s13 v13
  have R13 := s13 _ _ h.r
  have kt : ∀ t ys, H13 t = some (.tup ys) → (upd H13 R (.lst (us.map V.ref ++ [V.ref v]))) t = some (.tup ys) := fun t ys h => by rw [upd_ne (ne_of h R13 (fun e => nomatch e))]; exact h
  exact ⟨(h.k.trans (Kp.same s13)).upd_own hR0, (h.b.same s13).upd_ne hRx, (h.t.sm s13).upd_l R13, h.ks, h.lt, by rw [upd_same, List.map_append]; rfl, ((h.rw.keep fun t ys h => s13 _ _ h).keep kt).snoc (kt _ _ v13) (kt _ _ (s13 _ _ hb)), h.sb, h.al, .inl rfl⟩
/-- steps[name, below] = state, the key new -/
theorem RM.put {P : Program} {w : World} {x T R many rest : Nat} {keys : List (Str × List Nat)} {es rs rs1 : List REnt} {us : List Addr} {e : REnt} {H H1 : Hp} (h : RM P w x T R many rest keys es rs rs1 us e H H1) (hT0 : H T = none) {b : Addr} (hb : H1 b = some (.tup (nI e.2.1))) (hlt : e.2.2 < many) (fresh : ek e ∉ keys) (hl : es.length ≤ 1000000) {Nx : Hp → Prop}
    (key : ∀ H2, RI P w x T R many rest (keys ++ [ek e]) (es ++ [e]) rs1 us H H2 → (∀ (l : Addr) (ys : List V), H1 l = some (.lst ys) → H2 l = some (.lst ys)) → (∀ (t : Addr) (ys : List V), H1 t = some (.tup ys) → H2 t = some (.tup ys)) → Nx H2) :
    2 ≤ sizeLine ∧ ∀ p, H1 p = none → ∃ a b' kvs k, V.ref T = V.ref a ∧ V.ref p = V.ref b' ∧ NdAt P w (upd H1 p (.tup [.str e.1, .ref b])) a kvs ∧ NKAt (upd H1 p (.tup [.str e.1, .ref b])) k b' ∧ valV kvs k = none ∧ kvs.length < sizeLine ∧ ∀ H', (∀ c, c ≠ a → H' c = (upd H1 p (.tup [.str e.1, .ref b])) c) → NdAt P w H' a (kvs ++ [(k, .int ((e.2.2 : Nat) : Int))]) → Nx H' := by
  refine ⟨le_line (show 2 ≤ 10000000 by decide), fun p hp => ?_⟩
  have s11 := (Same.refl H1).upd_new (o := .tup [.str e.1, .ref b]) hp
  have p11 : (upd H1 p (.tup [.str e.1, .ref b])) p = some (.tup [.str e.1, .ref b]) := upd_same
  generalize upd H1 p (.tup [.str e.1, .ref b]) = H11 at s11 p11
  have nd11 := h.t.sm s11
  have fr : ek e ∉ es.map ek := by rw [h.ks]; exact fresh
  refine ⟨T, p, es.map rkv, nkR (ek e), rfl, rfl, nd11, ⟨b, p11, by rw [s11 _ _ hb, nI_key]; rfl⟩, rkv_none fr, by rw [List.length_map]; exact lt_line (by omega), fun H12 oth nd12 => ?_⟩
  have t12 : ∀ (t : Addr) (ys : List V), H1 t = some (.tup ys) → H12 t = some (.tup ys) := fun t ys q => by rw [oth t (nd11.ne_tup (s11 _ _ q))]; exact s11 _ _ q
  have l12 : ∀ (l : Addr) (ys : List V), H1 l = some (.lst ys) → H12 l = some (.lst ys) := fun l ys q => by rw [oth l (nd11.ne_lst (s11 _ _ q)).symm]; exact s11 _ _ q
  refine key H12 ⟨(h.k.trans (Kp.same s11)).but hT0 oth, ?_, ?_, ?_, fun y hy => ?_, l12 _ _ h.r, h.rw.keep t12, ?_, fun y hy => ?_⟩ l12 t12
  · obtain ⟨a, b, c, hh⟩ := h.b
    exact ⟨a, b, c, l12 _ _ hh⟩
  · rw [List.map_append]
    exact nd12
  · rw [List.map_append, h.ks]
    rfl
  · rcases List.mem_append.mp hy with g | g
    · exact h.lt y g
    · rw [List.mem_singleton.mp g]; exact hlt
  · rcases h.w with c | ⟨c, _⟩
    · rw [c]
      exact h.sb.append (List.Sublist.refl _)
    · rw [c]
      exact h.sb.trans (List.sublist_append_left _ _)
  · rcases List.mem_append.mp hy with g | g
    · rcases h.al y g with q | q
      · rcases h.w with c | ⟨c, _⟩
        · exact .inl (by rw [c]; exact List.mem_append_left _ q)
        · exact .inl (by rw [c]; exact q)
      · exact .inr q
    · rw [List.mem_singleton.mp g]
      rcases h.w with c | ⟨_, c⟩
      · exact .inl (by rw [c]; exact List.mem_append_right _ (List.mem_singleton.mpr rfl))
      · exact .inr c
theorem RI.ok {P : Program} {w : World} {x T R many rest : Nat} {rows : List Row} {es rs rs' : List REnt} {us : List Addr} {ms : List Nat} {H H1 : Hp} (h : RI P w x T R many rest (ksOf rows many) es rs us H H1) (Ro : ROk 4 rows) (m1 : 1 ≤ many) (m40 : many ≤ 40) (hre : rest < many) (p : rs'.Perm rs) (pw : ms.Pairwise (· < ·)) (ml : ∀ m ∈ ms, m < many) (l4 : es.length ≤ 10000) : (⟨many, rest, es, rs', ms⟩ : RdD).Ok rows := by
  refine ⟨m1, m40, hre, h.ks, h.lt, fun e he => h.sb.subset (p.subset he), fun e he => ?_, ?_, ?_, pw, ml⟩
  · rcases h.al e he with q | q
    · exact .inl (p.symm.subset q)
    · exact .inr q
  · have n1 : (es.map ek).Nodup := by rw [h.ks]; exact ks_nd Ro.nd
    exact ((p.map ek).nodup_iff).mpr (n1.sublist (h.sb.map ek))
  · show rs'.length ≤ 10000
    rw [p.length_eq]
    exact Nat.le_trans h.sb.length_le l4
/-- the list that the law keeps of a reader -/
def LrA (P : Program) (w : World) (H : Hp) (a : Addr) (D : RdD) (ex : List V) : Prop := ∃ (tR tM tS : Addr) (us : List Addr), H a = some (.lst ([.int ((D.many : Nat) : Int), .ref tR, .int ((D.rest : Nat) : Int), .ref tM, .ref tS] ++ ex)) ∧ H tR = some (.tup (us.map V.ref)) ∧ RwAt H us D.rws ∧ H tM = some (.tup (nI D.marks)) ∧ NdAt P w H tS (D.ent.map rkv)
theorem LrA.sm {P : Program} {w : World} {H H' : Hp} {a : Addr} {D : RdD} {ex : List V} (h : LrA P w H a D ex) (s : Same H H') : LrA P w H' a D ex := by
  obtain ⟨tR, tM, tS, us, h1, h2, h3, h4, h5⟩ := h
  exact ⟨tR, tM, tS, us, s _ _ h1, s _ _ h2, h3.keep (fun _ _ q => s _ _ q), s _ _ h4, h5.sm s⟩
theorem LrA.kx {P : Program} {w : World} {H H' : Hp} {a x : Addr} {D : RdD} {ex : List V} (h : LrA P w H a D ex) (b : BxT H x) (k : Kp x H H') (n : a ≠ x) : LrA P w H' a D ex := by
  obtain ⟨tR, tM, tS, us, h1, h2, h3, h4, h5⟩ := h
  exact ⟨tR, tM, tS, us, k _ _ h1 n, b.tk k _ _ h2, h3.keep (b.tk k), b.tk k _ _ h4, h5.kx b k⟩
theorem cut_from {us : List Addr} {t : Nat} (h : t ≤ us.length) : cutV (us.map V.ref) (some ((t : Nat) : Int)) none = (us.drop t).map V.ref := by
  unfold cutV
  rw [HT.sIx_nat, HT.sIx_none, List.length_map, Nat.min_eq_left h, List.take_of_length_le (by rw [List.length_drop, List.length_map]; omega), List.map_drop]
theorem cut_to {us : List Addr} {t : Nat} (h : t ≤ us.length) : cutV (us.map V.ref) none (some ((t : Nat) : Int)) = (us.take t).map V.ref := by
  unfold cutV
  rw [HT.sIx_nat, HT.sIx_none, List.length_map, Nat.min_eq_left h, List.drop_zero, Nat.sub_zero, List.map_take]
def spReader6 (P : Program) (w : World) : Sp := fun vs H Q _ => ∃ (x r : Addr) (ts : List Addr) (rows : List Row) (most : Nat), vs = [.ref x, .ref r, .int (most : Nat)] ∧ BxT H x ∧ H r = some (.tup (ts.map V.ref)) ∧ TupsAt H ts rows ∧ ROk 4 rows ∧ 1 ≤ most ∧ most ≤ 4 ∧ ∀ (H' : Hp) (a : Addr) (D : RdD), Kp x H H' → BxT H' x → D.Ok rows → D.many ≤ most → H a = none → a ≠ x → LrA P w H' a D [] → Q (.ref a) H'
abbrev N_law_reader : List Str := ["box", "kinds", "most", "states", "spare", "rows", "steps", "name", "size", "below", "state", "turn"]
theorem sc_law_reader : FnScope N_law_reader ["box", "kinds", "most"] (defScope s_law_reader) := ⟨rfl, rfl, rfl, by decide +kernel, rfl, by decide +kernel, by decide +kernel⟩
section
variable {P : Program} {w : World} {K : PySem.W.Frag} {mg : Str → Option Value} {base : Heap}
theorem ok_reader6 (T : Bl mg) (b_min : mg "min" = none) (c_law_take : DefOk P w K mg base CX0 1 "_law_take" spTake) (c_law_tuples : DefOk P w K mg base CX0 1 "_law_tuples" spTuples6) (c_law_marks : DefOk P w K mg base CX0 2 "_law_marks" spMarks6) (D : Def0 K mg "_law_reader" s_law_reader) : DefOk P w K mg base CX0 3 "_law_reader" (spReader6 P w) := by
  refine D.ok sc_law_reader (fun vs H Q E h => ?_) (fun _ _ _ _ _ _ us hl => match us, hl with | [_, _, _], _ => rfl) (fun f cdv A outer s' H vs Q E hr h => ?_)
  · obtain ⟨x, r, ts, rows, most, rfl, _⟩ := h
    rfl
  · obtain ⟨x, r, ts, rows, most, rfl, hx, hr0, hT, Ro, mo1, mo4, key⟩ := h
    have hu2 := hu2_of hr
    have hwd := Ro.wd
    have lrows := Ro.len
    have lts : (ts.map V.ref).length = rows.length := by rw [List.length_map, hT.1]
    refine ⟨_, (pss_cons (ps_set (i := 3) sc_law_reader.nd rfl (Or.inl rfl) (pe_callB (call_min2 rfl) (by rfl) b_min (by decide +kernel) (pa_cons (pv 2) (pa_cons (pe_ix ix_list (pe_lst (pa_cons pe_int (pa_cons pe_int (pa_cons pe_int (pa_cons pe_int (pa_cons pe_int (pa_cons pe_int (pa_cons pe_int (pa_cons pe_int pa_nil))))))))) (pe_d c_law_take (hr.mono (by decide)) pass0 (pa_cons (pv 0) (pa_cons pe_int pa_nil))) (fun _ _ => rfl)) pa_nil))))
      (pss_cons (ps_set (i := 4) sc_law_reader.nd rfl (Or.inl rfl) (pe_d c_law_take (hr.mono (by decide)) pass0 (pa_cons (pv 0) (pa_cons (pv 3) pa_nil))))
      (pss_cons (ps_set (i := 5) sc_law_reader.nd rfl (Or.inl rfl) (pe_lst pa_nil))
      (pss_cons (ps_set (i := 6) sc_law_reader.nd rfl (Or.inl rfl) (show PE _ _ (tNNew P w) from pe_dnewN))
      (pss_cons (ps_for PassesOwn.never rfl (pi_tup (pv 1)) (pg_tup (by rfl) (pgs_cons (pg_name (i := 7) sc_law_reader.nd rfl (Or.inl rfl)) (pgs_cons (pg_name (i := 8) sc_law_reader.nd rfl (Or.inl rfl)) pgs_nil)))
        (pss_one (ps_for PassesOwn.never rfl (pi_list (pe_d c_law_tuples (hr.mono (by decide)) pass0 (pa_cons (pv 3) (pa_cons (pv 8) pa_nil)))) (pg_name (i := 9) sc_law_reader.nd rfl (Or.inl rfl))
          (pss_cons (ps_set (i := 10) sc_law_reader.nd rfl (Or.inl rfl) (pe_d c_law_take (hr.mono (by decide)) pass0 (pa_cons (pv 0) (pa_cons (pe_op op_add (pv 3) pe_int) pa_nil))))
          (pss_cut (ps_if (pt_cmpR op_lt (pv 10) (pv 3) (nomark _))
            (pss_one (ps_expr (pe_bm PySem.F.plainAttrs_list PySem.F.slot_list_append PySem.F.type_list_append mt_append (pv 5) (pa_cons (pe_tup (pa_cons (pv 7) (pa_cons (pv 9) (pa_cons (pv 10) pa_nil)))) pa_nil))))
            (pss_one (ps_set (i := 10) sc_law_reader.nd rfl (Or.inl rfl) (pv 4))))
          (pss_one (ps_nput hu2 (pv 6) (pe_tup (pa_cons (pv 7) (pa_cons (pv 9) pa_nil))) (pv 10) rfl)))))))
      (pss_cons (ps_set (i := 11) sc_law_reader.nd rfl (Or.inl rfl) (pe_d c_law_take (hr.mono (by decide)) pass0 (pa_cons (pv 0) (pa_cons (pe_op op_add (pe_callB call_len_seq (by rfl) T.b_len boot_len (pa_cons (pv 5) pa_nil)) pe_int) pa_nil))))
      (pss_cons (ps_set (i := 5) sc_law_reader.nd rfl (Or.inl rfl) (pe_op op_cat (pe_slice sl_list (pv 5) (po_some (pv 11)) po_none) (pe_slice sl_list (pv 5) po_none (po_some (pv 11)))))
      (pss_one (ps_ret (pe_lst (pa_cons (pv 3) (pa_cons (pe_callTy call_tuple_of (by rfl) T.b_tuple (by decide +kernel) (pa_cons (pv 5) pa_nil)) (pa_cons (pv 4) (pa_cons (pe_d c_law_marks (hr.mono (by decide)) pass0 (pa_cons (pv 0) (pa_cons (pv 3) pa_nil))) (pa_cons (pv 6) pa_nil))))))))))))))), ?_⟩
    refine ⟨_, rfl, le_line (show 8 ≤ 10000000 by decide), fun l1 hl1 => ?_⟩
    have n1 := hx.ne hl1
    have s1 := (Same.refl H).upd_new (o := .lst [V.int 2, V.int 3, V.int 2, V.int 4, V.int 1, V.int 3, V.int 2, V.int 4]) hl1
    have e1 : (upd H l1 (.lst [V.int 2, V.int 3, V.int 2, V.int 4, V.int 1, V.int 3, V.int 2, V.int 4])) l1 = some (.lst (([2, 3, 2, 4, 1, 3, 2, 4] : List Int).map V.int)) := upd_same
    generalize upd H l1 (.lst [V.int 2, V.int 3, V.int 2, V.int 4, V.int 1, V.int 3, V.int 2, V.int 4]) = H1 at s1 e1
    refine ⟨_, rfl, x, 8, rfl, hx.same s1, by decide, by decide, fun H2 d k2 b2 d8 => ?_⟩
    obtain ⟨mi, hm, m1, m4⟩ := pickI (l := [2, 3, 2, 4, 1, 3, 2, 4]) (fun z => 1 ≤ z ∧ z ≤ 4) (by decide) (e := d) (by show d < 8; omega)
    refine ⟨l1, _, _, _, rfl, rfl, SqL.of (k2 _ _ e1 n1), at_ofG (j := d) rfl hm, _, _, rfl, ?_⟩
    obtain ⟨many, emn, mm1, mm4, mmo⟩ : ∃ many : Nat, (if mi < ((most : Nat) : Int) then mi else ((most : Nat) : Int)) = ((many : Nat) : Int) ∧ 1 ≤ many ∧ many ≤ 4 ∧ many ≤ most := by
      by_cases c : mi < ((most : Nat) : Int)
      · exact ⟨mi.toNat, by rw [if_pos c]; omega, by omega, by omega, by omega⟩
      · exact ⟨most, by rw [if_neg c], mo1, by omega, Nat.le_refl _⟩
    rw [emn]
    refine ⟨_, rfl, _, rfl, x, many, rfl, b2, by omega, by omega, fun H3 rest k3 b3 hre' => ?_⟩
    have hre : rest < many := by omega
    have k03 := (Kp.same s1).trans (k2.trans k3)
    refine ⟨le_line (show 0 ≤ 10000000 by decide), fun R hR => ?_⟩
    have hR0 := k03.freeT b3 hR
    have hRx := b3.ne hR
    have s34 := (Same.refl H3).upd_new (o := .lst []) hR
    have R4 : (upd H3 R (.lst [])) R = some (.lst (([] : List Addr).map V.ref)) := upd_same
    have k04 := k03.trans (Kp.same s34)
    have b4 := b3.same s34
    generalize upd H3 R (.lst []) = H4 at s34 R4 k04 b4
    intro Tb hTb nd
    have hTx := b4.ne hTb
    have hT0 := k04.freeT b4 hTb
    have s5 := (Same.refl H4).upd_new (o := NdO P w Tb []) hTb
    have k05 := k04.trans (Kp.same s5)
    have b5 := b4.same s5
    have R5 := s5 _ _ R4
    generalize upd H4 Tb (NdO P w Tb []) = H5 at s5 nd k05 b5 R5
    have nrx := hx.ne_tup hr0
    have nTs := fun {H' : Hp} (k : Kp x H H') => hT.keep (hx.tk k)
    refine ⟨_, rfl, r, rfl, ⟨_, SqT.of (k05 _ _ hr0 nrx)⟩, for_tup (xs := ts.map V.ref) (fun i σ H' => ∃ (x7 x8 x9 x10 : Option V) (es rs : List REnt) (us : List Addr), σ = [some (.ref x), some (.ref r), some (.int (most : Nat)), some (.int (many : Nat)), some (.int (rest : Nat)), some (.ref R), some (.ref Tb), x7, x8, x9, x10, none] ∧ RI P w x Tb R many rest (ksOf (rows.take i) many) es rs us H H')
      ⟨none, none, none, none, [], [], [], rfl, k05, b5, nd, rfl, fun e he => (nomatch he), R5, .nil, .slnil, fun e he => (nomatch he)⟩ (fun i σ H' _ ⟨_, _, _, _, _, _, _, _, h⟩ => SqT.of (h.k _ _ hr0 nrx)) ?_ ?_⟩
    · rintro i v σ H6 hv ⟨x7, x8, x9, x10, es, rs, us, rfl, I6⟩
      obtain ⟨t, ht, rfl⟩ := get_map_r hv
      have hil : i < rows.length := by rw [← hT.1]; exact (List.getElem?_eq_some_iff.mp ht).1
      have hq := List.getElem?_eq_getElem hil
      have hqw := hwd _ (List.getElem_mem hil)
      generalize rows[i] = q at hq hqw
      have ht6 := (nTs I6.k).2 i t q ht hq
      have eq2 : q.2 = ((q.2.toNat : Nat) : Int) := by omega
      refine ⟨t, _, rfl, SqT.of ht6, rfl, _, _, rfl, _, _, rfl, rfl, ?_⟩
      refine ⟨_, rfl, _, rfl, many, q.2.toNat, by show [V.int _, V.int q.2] = _; rw [← eq2], by omega, by omega, fun k hk => ?_, fun H7 L s7 nL WL => ?_⟩
      · exact Nat.le_trans (Nat.pow_le_pow_left (show many ≤ 4 by omega) _) (Nat.le_trans (Nat.pow_le_pow_right (by decide) (show k ≤ 3 by omega)) (by decide))
      obtain ⟨us2, hL, PL⟩ := WL
      have PL : PlAt nI H7 us2 (wq many q) := PL
      have I7 := I6.sm s7
      have lus2 : (us2.map V.ref).length = (wq many q).length := by rw [List.length_map, PL.1]
      have hLx : L ≠ x := I6.b.ne nL
      refine ⟨L, rfl, ⟨_, SqL.of hL⟩, for_list (xs := us2.map V.ref) (fun j σ H' => ∃ (x9 x10 : Option V) (es rs : List REnt) (us : List Addr), σ = [some (.ref x), some (.ref r), some (.int (most : Nat)), some (.int (many : Nat)), some (.int (rest : Nat)), some (.ref R), some (.ref Tb), some (.str q.1), some (.int q.2), x9, x10, none] ∧ RI P w x Tb R many rest (ksOf (rows.take i) many ++ ((wq many q).take j).map (fun s => (q.1, s))) es rs us H H' ∧ H' L = some (.lst (us2.map V.ref)) ∧ PlAt nI H' us2 (wq many q) ∧ R ≠ L)
        ⟨x9, x10, es, rs, us, rfl, by rw [List.take_zero, List.map_nil, List.append_nil]; exact I7, hL, PL, ne_of_none I6.r nL⟩ (fun i σ H' _ ⟨_, _, _, _, _, _, _, h, _⟩ => SqL.of h) ?_ ?_⟩
      · rintro j v σ H8 hv ⟨x9, x10, es, rs, us, rfl, I8, L8, P8, nRL⟩
        obtain ⟨u, hu, rfl⟩ := get_map_r hv
        have hjl : j < (wq many q).length := by rw [← P8.1]; exact (List.getElem?_eq_some_iff.mp hu).1
        have hs := List.getElem?_eq_getElem hjl
        generalize (wq many q)[j] = ss at hs
        refine ⟨_, rfl, _, rfl, _, _, rfl, rfl, x, ((many : Nat) : Int) + 1, rfl, I8.b, by omega, by omega, fun H9 s0 k9 b9 s10 => ?_⟩
        have I9 := I8.draw k9 b9 hRx
        have L9 := k9 _ _ L8 hLx
        have P9 := P8.keep (I8.b.tk k9)
        have hu9 := P9.2 j u ss hu hs
        obtain ⟨rst, hrst⟩ := ks_step hq hs
        have fresh : ∀ s : Nat, ek ((q.1, ss, s) : REnt) ∉ ksOf (rows.take i) many ++ ((wq many q).take j).map (fun s => (q.1, s)) := fun s => by
          have nd := ks_nd (many := many) Ro.nd
          rw [← hrst] at nd
          rw [List.nodup_append] at nd
          intro hm
          exact nd.2.2 _ hm _ List.mem_cons_self rfl
        have les : es.length ≤ 256000 := by
          have h1 := ks_lenM (show many ≤ 40 by omega) Ro
          rw [← hrst, ← I9.ks, List.length_append, List.length_map] at h1
          omega
        have lus : us.length ≤ 256000 := by
          rw [I9.rw.1]
          exact Nat.le_trans I9.sb.length_le les
        have done : ∀ (s : Nat) (rs1 : List REnt) (us1 : List Addr) (H10 : Hp), RI P w x Tb R many rest (ksOf (rows.take i) many ++ ((wq many q).take j).map (fun s => (q.1, s)) ++ [ek ((q.1, ss, s) : REnt)]) (es ++ [(q.1, ss, s)]) rs1 us1 H H10 → H10 L = some (.lst (us2.map V.ref)) → PlAt nI H10 us2 (wq many q) → ∃ (x9 x10 : Option V) (es rs : List REnt) (us : List Addr), [some (.ref x), some (.ref r), some (.int (most : Nat)), some (.int (many : Nat)), some (.int (rest : Nat)), some (.ref R), some (.ref Tb), some (.str q.1), some (.int q.2), some (.ref u), some (.int (s : Nat)), none] = [some (.ref x), some (.ref r), some (.int (most : Nat)), some (.int (many : Nat)), some (.int (rest : Nat)), some (.ref R), some (.ref Tb), some (.str q.1), some (.int q.2), x9, x10, none] ∧ RI P w x Tb R many rest (ksOf (rows.take i) many ++ ((wq many q).take (j + 1)).map (fun s => (q.1, s))) es rs us H H10 ∧ H10 L = some (.lst (us2.map V.ref)) ∧ PlAt nI H10 us2 (wq many q) ∧ R ≠ L := fun s rs1 us1 H10 h1 h2 h3 => by
          refine ⟨_, _, es ++ [(q.1, ss, s)], rs1, us1, rfl, ?_, h2, h3, nRL⟩
          rw [List.take_add_one, hs, List.map_append, ← List.append_assoc]
          exact h1
        refine ⟨fun σ H' => ∃ (s : Nat) (rs1 : List REnt) (us1 : List Addr), s < many ∧ σ = [some (.ref x), some (.ref r), some (.int (most : Nat)), some (.int (many : Nat)), some (.int (rest : Nat)), some (.ref R), some (.ref Tb), some (.str q.1), some (.int q.2), some (.ref u), some (.int (s : Nat)), none] ∧ RM P w x Tb R many rest (ksOf (rows.take i) many ++ ((wq many q).take j).map (fun s => (q.1, s))) es rs rs1 us1 (q.1, ss, s) H H' ∧ H' L = some (.lst (us2.map V.ref)) ∧ PlAt nI H' us2 (wq many q), ?_, ?_⟩
        · refine ⟨_, rfl, _, rfl, _, _, rfl, rfl, _, rfl, ite2 (fun c => ?_) (fun c => ⟨_, rfl, rest, rs, us, hre, rfl, I9.skip rfl, L9, P9⟩)⟩
          have c := of_decide_eq_true c
          refine ⟨_, rfl, .inl ⟨rfl, _, SqL.of I9.r⟩, _, rfl, _, rfl, _, rfl, le_line (show 3 ≤ 10000000 by decide), fun v hv => ?_⟩
          have nvR : R ≠ v := ne_of_none I9.r hv
          refine ⟨R, _, _, rfl, rfl, by rw [upd_ne nvR]; exact I9.r, by rw [List.length_map]; exact lt_line (by omega), ?_⟩
          exact ⟨s0, _, _, by omega, rfl, I9.app hR0 hRx (e := (q.1, ss, s0)) hv hu9, by rw [upd_ne nRL.symm, upd_ne (ne_of_none L9 hv)]; exact L9, P9.keep fun t ys h => by rw [upd_ne (ne_of h I9.r (fun e => nomatch e)), upd_ne (ne_of_none h hv)]; exact h⟩
        rintro σ H10 ⟨s, rs1, us1, hsm, rfl, M10, L10, P10⟩
        refine ⟨_, rfl, _, rfl, _, rfl, _, rfl, M10.put hT0 (e := (q.1, ss, s)) (P10.2 j u ss hu hs) hsm (fresh s) (by omega) fun H12 I12 l12 t12 => done s rs1 us1 H12 I12 (l12 _ _ L10) (P10.keep t12)⟩
      · rintro σ H8 ⟨x9, x10, es, rs, us, rfl, I8, L8, P8, _⟩
        refine ⟨_, _, _, _, es, rs, us, rfl, ?_⟩
        rw [lus2, List.take_length] at I8
        rw [ks_take hq]
        exact I8
    · rintro σ H6 ⟨x7, x8, x9, x10, es, rs, us, rfl, I6⟩
      rw [lts, List.take_length] at I6
      have les : es.length ≤ 10000 := by
        have h1 : (es.map ek).length = _ := congrArg List.length I6.ks
        rw [List.length_map] at h1
        have : ∀ l : List Row, (∀ q ∈ l, 0 ≤ q.2 ∧ q.2 ≤ 3) → (ksOf l many).length ≤ 64 * l.length := fun l => by
          induction l with
          | nil => intro _; exact Nat.le_refl _
          | cons q l ih =>
            intro hl
            unfold ksOf at ih ⊢
            rw [List.flatMap_cons, List.length_append, List.length_map, List.length_cons, wq_pow]
            have h1 := ih fun q hq => hl q (List.mem_cons_of_mem _ hq)
            have h2 := hl q List.mem_cons_self
            have h3 : many ^ q.2.toNat ≤ 4 ^ 3 := Nat.le_trans (Nat.pow_le_pow_left mm4 _) (Nat.pow_le_pow_right (by decide) (by omega))
            have h4 : 4 ^ 3 = 64 := by decide
            omega
        have := this rows hwd
        omega
      have lus : us.length ≤ 10000 := by
        rw [I6.rw.1]
        exact Nat.le_trans I6.sb.length_le les
      refine ⟨_, rfl, _, rfl, R, _, rfl, .inl (SqL.of I6.r), _, _, rfl, rfl, x, _, rfl, I6.b, by rw [List.length_map]; omega, by rw [List.length_map]; omega, fun H7 tn k7 b7 htn => ?_⟩
      have I7 := I6.draw k7 b7 hRx
      rw [List.length_map] at htn
      have R7 := I7.r
      refine ⟨_, rfl, _, rfl, _, rfl, ?_⟩
      unfold tNoPart
      have ltn : tn ≤ us.length := by omega
      refine ⟨R, _, rfl, SqL.of R7, fun A1 hA1 => ?_⟩
      rw [cut_from ltn]
      have s8 := (Same.refl H7).upd_new (o := .lst ((us.drop tn).map V.ref)) hA1
      have A8 : (upd H7 A1 (.lst ((us.drop tn).map V.ref))) A1 = some (.lst ((us.drop tn).map V.ref)) := upd_same
      generalize upd H7 A1 (.lst ((us.drop tn).map V.ref)) = H8 at s8 A8
      refine ⟨_, rfl, _, rfl, _, rfl, R, _, rfl, SqL.of (s8 _ _ R7), fun B1 hB1 => ?_⟩
      rw [cut_to ltn]
      have s9 := s8.trans ((Same.refl H8).upd_new (o := .lst ((us.take tn).map V.ref)) hB1)
      have A9 : (upd H8 B1 (.lst ((us.take tn).map V.ref))) A1 = some (.lst ((us.drop tn).map V.ref)) := by rw [upd_ne (ne_of_none A8 hB1)]; exact A8
      have B9 : (upd H8 B1 (.lst ((us.take tn).map V.ref))) B1 = some (.lst ((us.take tn).map V.ref)) := upd_same
      generalize upd H8 B1 (.lst ((us.take tn).map V.ref)) = H9 at s9 A9 B9
      refine ⟨A1, B1, _, _, rfl, rfl, A9, B9, by rw [List.length_map, List.length_map, List.length_drop, List.length_take]; exact le_line (by omega), fun C1 hC1 => ?_⟩
      rw [← List.map_append]
      have s10 := s9.trans ((Same.refl H9).upd_new (o := .lst ((us.drop tn ++ us.take tn).map V.ref)) hC1)
      have C10 : (upd H9 C1 (.lst ((us.drop tn ++ us.take tn).map V.ref))) C1 = some (.lst ((us.drop tn ++ us.take tn).map V.ref)) := upd_same
      generalize upd H9 C1 (.lst ((us.drop tn ++ us.take tn).map V.ref)) = H10 at s10 C10
      have rw7 : RwAt H7 (us.drop tn ++ us.take tn) (rs.drop tn ++ rs.take tn) := (I7.rw.drop tn).app (I7.rw.take tn)
      have pm : (rs.drop tn ++ rs.take tn).Perm rs := by
        have := List.perm_append_comm (l₁ := rs.drop tn) (l₂ := rs.take tn)
        rwa [List.take_append_drop] at this
      generalize us.drop tn ++ us.take tn = us' at C10 rw7
      generalize rs.drop tn ++ rs.take tn = rs' at rw7 pm
      refine ⟨_, rfl, _, rfl, C1, _, rfl, .inl ⟨SqL.of C10, fun tR htR => ?_⟩⟩
      have I10 := I7.sm s10
      have s11 := s10.trans ((Same.refl H10).upd_new (o := .tup (us'.map V.ref)) htR)
      have t11 : (upd H10 tR (.tup (us'.map V.ref))) tR = some (.tup (us'.map V.ref)) := upd_same
      generalize upd H10 tR (.tup (us'.map V.ref)) = H11 at s11 t11
      have I11 := I7.sm s11
      refine ⟨_, rfl, _, rfl, _, rfl, x, many, rfl, I11.b, by omega, fun H12 tM ms k12 b12 hM pw ml => ?_⟩
      have I12 := I11.draw k12 b12 hRx
      refine ⟨_, rfl, le_line (show 5 ≤ 10000000 by decide), fun a ha => ?_⟩
      have t12 := b12
      have htR12 := I11.b.tk k12 _ _ t11
      have rw12 := (rw7.keep fun _ _ q => s11 _ _ q).keep (I11.b.tk k12)
      have sl := (Same.refl H12).upd_new (o := .lst [.int ((many : Nat) : Int), .ref tR, .int ((rest : Nat) : Int), .ref tM, .ref Tb]) ha
      refine key _ a ⟨many, rest, es, rs', ms⟩ (I12.k.trans (Kp.same sl)) (b12.same sl) (I12.ok Ro mm1 (by omega) hre pm pw ml les) mmo (I12.k.freeT b12 ha) (b12.ne ha) ⟨tR, tM, Tb, us', upd_same, sl _ _ htR12, rw12.keep (fun _ _ q => sl _ _ q), sl _ _ hM, I12.t.sm sl⟩
end
end Sh
end
section
set_option Elab.async false
set_option linter.all false
set_option maxRecDepth 100000
set_option maxHeartbeats 8000000
namespace Sh
open PySem PySem.Spec PyProof.Rows L2
open C8 (pss_cut tCut)
open Evl (ixN_nat)
theorem RwAt.rev {H : Hp} {us : List Addr} {rs : List REnt} (a : RwAt H us rs) : RwAt H us.reverse rs.reverse := by
  refine ⟨by rw [List.length_reverse, List.length_reverse, a.1], fun i u e h1 h2 => ?_⟩
  have l1 := (List.getElem?_eq_some_iff.mp h1).1
  have l2 := (List.getElem?_eq_some_iff.mp h2).1
  rw [List.length_reverse] at l1 l2
  rw [List.getElem?_reverse l1] at h1
  rw [List.getElem?_reverse l2, ← a.1] at h2
  exact a.2 _ u e h1 h2
def spLong6 (P : Program) (w : World) : Sp := fun vs H Q _ => ∃ (x r : Addr) (ts : List Addr) (rows : List Row) (many : Nat), vs = [.ref x, .ref r, .int (many : Nat)] ∧ BxT H x ∧ H r = some (.tup (ts.map V.ref)) ∧ TupsAt H ts rows ∧ ROk 4 rows ∧ (∀ q ∈ rows, q.2 ≤ 1) ∧ 1 ≤ many ∧ many ≤ 40 ∧ ∀ (H' : Hp) (a : Addr) (D : RdD), Kp x H H' → BxT H' x → D.Ok rows → D.many = many → H a = none → a ≠ x → LrA P w H' a D [] → Q (.ref a) H'
abbrev N_law_long : List Str := ["box", "kinds", "states", "spare", "rows", "steps", "name", "size", "slope", "shift", "odd", "goal", "below", "state", "period", "rest", "marks"]
theorem sc_law_long : FnScope N_law_long ["box", "kinds", "states"] (defScope s_law_long) := ⟨rfl, rfl, rfl, by decide +kernel, rfl, by decide +kernel, by decide +kernel⟩
section
variable {P : Program} {w : World} {K : PySem.W.Frag} {mg : Str → Option Value} {base : Heap}
theorem ok_long6 (T : Bl mg) (c_law_take : DefOk P w K mg base CX0 1 "_law_take" spTake) (c_law_tuples : DefOk P w K mg base CX0 1 "_law_tuples" spTuples6) (D : Def0 K mg "_law_long" s_law_long) : DefOk P w K mg base CX0 3 "_law_long" (spLong6 P w) := by
  refine D.ok sc_law_long (fun vs H Q E h => ?_) (fun _ _ _ _ _ _ us hl => match us, hl with | [_, _, _], _ => rfl) (fun f cdv A outer s' H vs Q E hr h => ?_)
  · obtain ⟨x, r, ts, rows, many, rfl, _⟩ := h
    rfl
  · obtain ⟨x, r, ts, rows, many, rfl, hx, hr0, hT, Ro, w1, mm2, mm40, key⟩ := h
    have hu2 := hu2_of hr
    have hwd := Ro.wd
    have lrows := Ro.len
    have lts : (ts.map V.ref).length = rows.length := by rw [List.length_map, hT.1]
    refine ⟨_, (pss_cons (ps_set (i := 3) sc_law_long.nd rfl (Or.inl rfl) (pe_d c_law_take (hr.mono (by decide)) pass0 (pa_cons (pv 0) (pa_cons (pv 2) pa_nil))))
      (pss_cons (ps_set (i := 4) sc_law_long.nd rfl (Or.inl rfl) (pe_lst pa_nil))
      (pss_cons (ps_set (i := 5) sc_law_long.nd rfl (Or.inl rfl) (show PE _ _ (tNNew P w) from pe_dnewN))
      (pss_cons (ps_for PassesOwn.never rfl (pi_tup (pv 1)) (pg_tup (by rfl) (pgs_cons (pg_name (i := 6) sc_law_long.nd rfl (Or.inl rfl)) (pgs_cons (pg_name (i := 7) sc_law_long.nd rfl (Or.inl rfl)) pgs_nil)))
        (pss_cons (ps_set (i := 8) sc_law_long.nd rfl (Or.inl rfl) (pe_ix ix_list (pe_lst (pa_cons pe_int (pa_cons pe_int (pa_cons (pe_op op_sub (pv 2) pe_int) (pa_cons pe_int pa_nil))))) (pe_d c_law_take (hr.mono (by decide)) pass0 (pa_cons (pv 0) (pa_cons pe_int pa_nil))) (fun _ _ => rfl)))
        (pss_cons (ps_set (i := 9) sc_law_long.nd rfl (Or.inl rfl) (pe_d c_law_take (hr.mono (by decide)) pass0 (pa_cons (pv 0) (pa_cons (pv 2) pa_nil))))
        (pss_cons (ps_set (i := 10) sc_law_long.nd rfl (Or.inl rfl) (pe_d c_law_take (hr.mono (by decide)) pass0 (pa_cons (pv 0) (pa_cons (pv 2) pa_nil))))
        (pss_cons (ps_set (i := 11) sc_law_long.nd rfl (Or.inl rfl) (pe_d c_law_take (hr.mono (by decide)) pass0 (pa_cons (pv 0) (pa_cons (pv 2) pa_nil))))
        (pss_one (ps_for PassesOwn.never rfl (pi_list (pe_d c_law_tuples (hr.mono (by decide)) pass0 (pa_cons (pv 2) (pa_cons (pv 7) pa_nil)))) (pg_name (i := 12) sc_law_long.nd rfl (Or.inl rfl))
          (pss_cons (ps_set (i := 13) sc_law_long.nd rfl (Or.inl rfl) (pv 11))
          (pss_cut (ps_if (PW.pt (pw_and (pt_cmpR op_eq (pv 7) pe_int (nomark _)) (pw_and1 (pt_cmpR op_ne (pe_ix ix_tup (pv 12) pe_int (fun _ _ => rfl)) (pv 10) (nomark _)))))
            (pss_one (ps_set (i := 13) sc_law_long.nd rfl (Or.inl rfl) (pe_op op_mod (pe_callTy call_int1 (by rfl) T.b_int (by decide +kernel) (pa_cons (pe_op op_add (pe_op op_mul (pe_ix ix_tup (pv 12) pe_int (fun _ _ => rfl)) (pv 8)) (pv 9)) pa_nil)) (pv 2))))
            pss_nil)
          (pss_cut (ps_if (pt_cmpR op_ne (pv 13) (pv 3) (nomark _))
            (pss_one (ps_expr (pe_bm PySem.F.plainAttrs_list PySem.F.slot_list_append PySem.F.type_list_append mt_append (pv 4) (pa_cons (pe_tup (pa_cons (pv 6) (pa_cons (pv 12) (pa_cons (pv 13) pa_nil)))) pa_nil))))
            pss_nil)
          (pss_one (ps_nput hu2 (pv 5) (pe_tup (pa_cons (pv 6) (pa_cons (pv 12) pa_nil))) (pv 13) rfl))))))))))))
      (pss_cut (ps_if (pt_cmpR op_eq (pe_d c_law_take (hr.mono (by decide)) pass0 (pa_cons (pv 0) (pa_cons pe_int pa_nil))) pe_int (nomark _))
        (pss_one (ps_set (i := 4) sc_law_long.nd rfl (Or.inl rfl) (pe_revL (pv 4))))
        pss_nil)
      (pss_cons (ps_set (i := 14) sc_law_long.nd rfl (Or.inr rfl) (pe_op op_add pe_int (pe_d c_law_take (hr.mono (by decide)) pass0 (pa_cons (pv 0) (pa_cons pe_int pa_nil)))))
      (pss_cons (ps_set (i := 15) sc_law_long.nd rfl (Or.inr rfl) (pe_d c_law_take (hr.mono (by decide)) pass0 (pa_cons (pv 0) (pa_cons (pe_op op_add (pv 14) pe_int) pa_nil))))
      (pss_cons (ps_set (i := 16) sc_law_long.nd rfl (Or.inl rfl) (pe_callTy call_tuple_of (by rfl) T.b_tuple (by decide +kernel) (pa_cons (pe_lc (own := [("state", 13)]) (g := (gName 13)) rfl sc_law_long.nd (pi_range1 (by rfl) T.b_range (pa_cons (pv 2) pa_nil)) (blkOk_by (N := N_law_long) (sc := defScope s_law_long) (by decide +kernel)) (fun _ _ _ _ _ => (pg_name (i := 13) sc_law_long.nd rfl (Or.inl rfl))) (fun _ _ _ _ _ => (pts_one (pt_cmpR op_eq (pe_op op_mod (pv 13) (pv 14)) (pv 15) (nomark _)))) (fun _ _ _ _ _ => (pv 13))) pa_nil)))
      (pss_one (ps_ret (pe_lst (pa_cons (pv 2) (pa_cons (pe_callTy call_tuple_of (by rfl) T.b_tuple (by decide +kernel) (pa_cons (pv 4) pa_nil)) (pa_cons (pv 3) (pa_cons (pv 16) (pa_cons (pv 5) pa_nil)))))))))))))))), ?_⟩
    refine ⟨_, rfl, _, rfl, x, many, rfl, hx, by omega, by omega, fun H3 rest k03 b3 hre' => ?_⟩
    have hre : rest < many := by omega
    refine ⟨le_line (show 0 ≤ 10000000 by decide), fun R hR => ?_⟩
    have hR0 := k03.freeT b3 hR
    have hRx := b3.ne hR
    have s34 := (Same.refl H3).upd_new (o := .lst []) hR
    have R4 : (upd H3 R (.lst [])) R = some (.lst (([] : List Addr).map V.ref)) := upd_same
    have k04 := k03.trans (Kp.same s34)
    have b4 := b3.same s34
    generalize upd H3 R (.lst []) = H4 at s34 R4 k04 b4
    intro Tb hTb nd
    have hTx := b4.ne hTb
    have hT0 := k04.freeT b4 hTb
    have s5 := (Same.refl H4).upd_new (o := NdO P w Tb []) hTb
    have k05 := k04.trans (Kp.same s5)
    have b5 := b4.same s5
    have R5 := s5 _ _ R4
    generalize upd H4 Tb (NdO P w Tb []) = H5 at s5 nd k05 b5 R5
    have nrx := hx.ne_tup hr0
    have nTs := fun {H' : Hp} (k : Kp x H H') => hT.keep (hx.tk k)
    refine ⟨_, rfl, r, rfl, ⟨_, SqT.of (k05 _ _ hr0 nrx)⟩, for_tup (xs := ts.map V.ref) (fun i σ H' => ∃ (x6 x7 x8 x9 x10 x11 x12 x13 : Option V) (es rs : List REnt) (us : List Addr), σ = [some (.ref x), some (.ref r), some (.int (many : Nat)), some (.int (rest : Nat)), some (.ref R), some (.ref Tb), x6, x7, x8, x9, x10, x11, x12, x13, none, none, none] ∧ RI P w x Tb R many rest (ksOf (rows.take i) many) es rs us H H')
      ⟨none, none, none, none, none, none, none, none, [], [], [], rfl, k05, b5, nd, rfl, fun e he => (nomatch he), R5, .nil, .slnil, fun e he => (nomatch he)⟩ (fun i σ H' _ ⟨_, _, _, _, _, _, _, _, _, _, _, _, h⟩ => SqT.of (h.k _ _ hr0 nrx)) ?_ ?_⟩
    · rintro i v σ H6 hv ⟨x6, x7, x8, x9, x10, x11, x12, x13, es, rs, us, rfl, I6⟩
      obtain ⟨t, ht, rfl⟩ := get_map_r hv
      have hil : i < rows.length := by rw [← hT.1]; exact (List.getElem?_eq_some_iff.mp ht).1
      have hq := List.getElem?_eq_getElem hil
      have hqw := hwd _ (List.getElem_mem hil)
      have hq1 := w1 _ (List.getElem_mem hil)
      generalize rows[i] = q at hq hqw hq1
      have ht6 := (nTs I6.k).2 i t q ht hq
      have eq2 : q.2 = ((q.2.toNat : Nat) : Int) := by omega
      refine ⟨t, _, rfl, SqT.of ht6, rfl, _, _, rfl, _, _, rfl, rfl, ?_⟩
      refine ⟨_, rfl, _, _, rfl, rfl, le_line (show 4 ≤ 10000000 by decide), fun l1 hl1 => ?_⟩
      have n1 := I6.b.ne hl1
      have s61 := (Same.refl H6).upd_new (o := .lst [V.int 1, V.int 1, V.int (((many : Nat) : Int) - 1), V.int 2]) hl1
      have e61 : (upd H6 l1 (.lst [V.int 1, V.int 1, V.int (((many : Nat) : Int) - 1), V.int 2])) l1 = some (.lst (([1, 1, ((many : Nat) : Int) - 1, 2] : List Int).map V.int)) := upd_same
      generalize upd H6 l1 (.lst [V.int 1, V.int 1, V.int (((many : Nat) : Int) - 1), V.int 2]) = H61 at s61 e61
      have I61 := I6.sm s61
      refine ⟨_, rfl, x, 4, rfl, I61.b, by decide, by decide, fun H62 d62 k62 b62 d4 => ?_⟩
      have I62 := I61.draw k62 b62 hRx
      obtain ⟨sl, hsl, sl0, sl1⟩ := pickI (l := [1, 1, ((many : Nat) : Int) - 1, 2]) (fun z => 0 ≤ z ∧ z ≤ 100) (fun z hz => by
        simp only [List.mem_cons, List.not_mem_nil, or_false] at hz
        rcases hz with h | h | h | h <;> omega) (e := d62) (by show d62 < 4; omega)
      refine ⟨l1, _, _, _, rfl, rfl, SqL.of (k62 _ _ e61 n1), at_ofG (j := d62) rfl hsl, ?_⟩
      refine ⟨_, rfl, _, rfl, x, many, rfl, b62, by omega, by omega, fun H63 sh k63 b63 hsh => ?_⟩
      refine ⟨_, rfl, _, rfl, x, many, rfl, b63, by omega, by omega, fun H64 od k64 b64 hod => ?_⟩
      refine ⟨_, rfl, _, rfl, x, many, rfl, b64, by omega, by omega, fun H65 go k65 b65 hgo => ?_⟩
      have I65 := ((I62.draw k63 b63 hRx).draw k64 b64 hRx).draw k65 b65 hRx
      have hgo' : go < many := by omega
      refine ⟨_, rfl, _, rfl, many, q.2.toNat, by show [V.int _, V.int q.2] = _; rw [← eq2], by omega, by omega, fun k hk => ?_, fun H7 L s7 nL WL => ?_⟩
      · have : k = 0 := by omega
        rw [this]
        exact Nat.le_trans (Nat.le_refl 1) (by decide)
      obtain ⟨us2, hL, PL⟩ := WL
      have PL : PlAt nI H7 us2 (wq many q) := PL
      have I7 := I65.sm s7
      have lus2 : (us2.map V.ref).length = (wq many q).length := by rw [List.length_map, PL.1]
      have hLx : L ≠ x := I65.b.ne nL
      refine ⟨L, rfl, ⟨_, SqL.of hL⟩, for_list (xs := us2.map V.ref) (fun j σ H' => ∃ (x12 x13 : Option V) (es rs : List REnt) (us : List Addr), σ = [some (.ref x), some (.ref r), some (.int (many : Nat)), some (.int (rest : Nat)), some (.ref R), some (.ref Tb), some (.str q.1), some (.int q.2), some (.int sl), some (.int (sh : Nat)), some (.int (od : Nat)), some (.int (go : Nat)), x12, x13, none, none, none] ∧ RI P w x Tb R many rest (ksOf (rows.take i) many ++ ((wq many q).take j).map (fun s => (q.1, s))) es rs us H H' ∧ H' L = some (.lst (us2.map V.ref)) ∧ PlAt nI H' us2 (wq many q) ∧ R ≠ L)
        ⟨x12, x13, es, rs, us, rfl, by rw [List.take_zero, List.map_nil, List.append_nil]; exact I7, hL, PL, ne_of_none I65.r nL⟩ (fun i σ H' _ ⟨_, _, _, _, _, _, _, h, _⟩ => SqL.of h) ?_ ?_⟩
      · rintro j v σ H8 hv ⟨x12, x13, es, rs, us, rfl, I8, L8, P8, nRL⟩
        obtain ⟨u, hu, rfl⟩ := get_map_r hv
        have hjl : j < (wq many q).length := by rw [← P8.1]; exact (List.getElem?_eq_some_iff.mp hu).1
        have hs := List.getElem?_eq_getElem hjl
        have hsm := wq_mem.mp (List.getElem_mem hjl)
        generalize (wq many q)[j] = ss at hs hsm
        have hu8 := P8.2 j u ss hu hs
        refine ⟨_, rfl, ?_⟩
        refine ⟨fun σ H' => ∃ s : Nat, s < many ∧ H8 = H' ∧ σ = [some (.ref x), some (.ref r), some (.int (many : Nat)), some (.int (rest : Nat)), some (.ref R), some (.ref Tb), some (.str q.1), some (.int q.2), some (.int sl), some (.int (sh : Nat)), some (.int (od : Nat)), some (.int (go : Nat)), some (.ref u), some (.int (s : Nat)), none, none, none], ?_, ?_⟩
        · refine ⟨_, rfl, rfl, _, rfl, ite2 (fun c1 => ?_) (fun _ => ⟨go, hgo', rfl, rfl⟩)⟩
          rw [veq] at c1
          have c1 := of_decide_eq_true c1
          have hl1' : ss.length = 1 := by omega
          obtain ⟨s0, rfl⟩ := List.length_eq_one_iff.mp hl1'
          refine ⟨_, rfl, u, _, _, _, rfl, rfl, SqT.of hu8, atI_nat (j := 0) rfl, _, rfl, rfl, _, rfl, ite2 (fun _ => ?_) (fun _ => ⟨go, hgo', rfl, rfl⟩)⟩
          refine ⟨_, rfl, u, _, _, _, rfl, rfl, SqT.of hu8, atI_nat (j := 0) rfl, _, rfl, _, _, rfl, rfl, .inr ⟨by omega, by omega⟩, _, rfl, _, _, rfl, rfl, .inl ⟨_, rfl, ?_⟩⟩
          refine ⟨_, rfl, _, _, rfl, rfl, by omega, ?_⟩
          have g1 := Int.emod_nonneg (((s0 : Nat) : Int) * sl + ((sh : Nat) : Int)) (show ((many : Nat) : Int) ≠ 0 by omega)
          have g2 := Int.emod_lt_of_pos (((s0 : Nat) : Int) * sl + ((sh : Nat) : Int)) (show (0 : Int) < ((many : Nat) : Int) by omega)
          obtain ⟨m, hm⟩ := Int.eq_ofNat_of_zero_le g1
          exact ⟨m, by omega, rfl, by show [_, _, _, _, _, _, _, _, _, _, _, _, _, some (V.int ((((s0 : Nat) : Int) * sl + ((sh : Nat) : Int)) % ((many : Nat) : Int))), _, _, _] = _; rw [hm]⟩
        rintro σ H8' ⟨s, hsm', rfl, rfl⟩
        obtain ⟨rst, hrst⟩ := ks_step hq hs
        have fresh : ∀ s : Nat, ek ((q.1, ss, s) : REnt) ∉ ksOf (rows.take i) many ++ ((wq many q).take j).map (fun s => (q.1, s)) := fun s => by
          have nd := ks_nd (many := many) Ro.nd
          rw [← hrst] at nd
          rw [List.nodup_append] at nd
          intro hm
          exact nd.2.2 _ hm _ List.mem_cons_self rfl
        have les : es.length ≤ 256000 := by
          have h1 := ks_lenM mm40 Ro
          rw [← hrst, ← I8.ks, List.length_append, List.length_map] at h1
          omega
        have lus : us.length ≤ 256000 := by
          rw [I8.rw.1]
          exact Nat.le_trans I8.sb.length_le les
        refine ⟨fun σ H' => ∃ (rs1 : List REnt) (us1 : List Addr), σ = [some (.ref x), some (.ref r), some (.int (many : Nat)), some (.int (rest : Nat)), some (.ref R), some (.ref Tb), some (.str q.1), some (.int q.2), some (.int sl), some (.int (sh : Nat)), some (.int (od : Nat)), some (.int (go : Nat)), some (.ref u), some (.int (s : Nat)), none, none, none] ∧ RM P w x Tb R many rest (ksOf (rows.take i) many ++ ((wq many q).take j).map (fun s => (q.1, s))) es rs rs1 us1 (q.1, ss, s) H H' ∧ H' L = some (.lst (us2.map V.ref)) ∧ PlAt nI H' us2 (wq many q), ?_, ?_⟩
        · refine ⟨_, rfl, _, rfl, rfl, _, rfl, ite2 (fun c => ?_) (fun c => ?_)⟩
          · refine ⟨_, rfl, .inl ⟨rfl, _, SqL.of I8.r⟩, _, rfl, _, rfl, _, rfl, le_line (show 3 ≤ 10000000 by decide), fun v hv => ?_⟩
            have nvR : R ≠ v := ne_of_none I8.r hv
            refine ⟨R, _, _, rfl, rfl, by rw [upd_ne nvR]; exact I8.r, by rw [List.length_map]; exact lt_line (by omega), ?_⟩
            exact ⟨_, _, rfl, I8.app hR0 hRx (e := (q.1, ss, s)) hv hu8, by rw [upd_ne nRL.symm, upd_ne (ne_of_none L8 hv)]; exact L8, P8.keep fun t ys h => by rw [upd_ne (ne_of h I8.r (fun e => nomatch e)), upd_ne (ne_of_none h hv)]; exact h⟩
          · rw [vne] at c
            have c : s = rest := Decidable.byContradiction fun h => c (decide_eq_true h)
            exact ⟨rs, us, rfl, I8.skip c, L8, P8⟩
        rintro σ H10 ⟨rs1, us1, rfl, M10, L10, P10⟩
        refine ⟨_, rfl, _, rfl, _, rfl, _, rfl, M10.put hT0 (e := (q.1, ss, s)) (P10.2 j u ss hu hs) hsm' (fresh s) (by omega) fun H12 I12 l12 t12 => ?_⟩
        refine ⟨_, _, es ++ [(q.1, ss, s)], rs1, us1, rfl, ?_, l12 _ _ L10, P10.keep t12, nRL⟩
        rw [List.take_add_one, hs, List.map_append, ← List.append_assoc]
        exact I12
      · rintro σ H8 ⟨x12, x13, es, rs, us, rfl, I8, L8, P8, _⟩
        refine ⟨_, _, _, _, _, _, _, _, es, rs, us, rfl, ?_⟩
        rw [lus2, List.take_length] at I8
        rw [ks_take hq]
        exact I8
    · rintro σ H6 ⟨x6, x7, x8, x9, x10, x11, x12, x13, es, rs, us, rfl, I6⟩
      rw [lts, List.take_length] at I6
      have les : es.length ≤ 10000 := by
        have h1 : (es.map ek).length = _ := congrArg List.length I6.ks
        rw [List.length_map] at h1
        have : ∀ l : List Row, (∀ q ∈ l, 0 ≤ q.2 ∧ q.2 ≤ 1) → (ksOf l many).length ≤ 40 * l.length := fun l => by
          induction l with
          | nil => intro _; exact Nat.le_refl _
          | cons q l ih =>
            intro hl
            unfold ksOf at ih ⊢
            rw [List.flatMap_cons, List.length_append, List.length_map, List.length_cons, wq_pow]
            have h1 := ih fun q hq => hl q (List.mem_cons_of_mem _ hq)
            have h2 := hl q List.mem_cons_self
            have h3 : many ^ q.2.toNat ≤ 40 ^ 1 := Nat.le_trans (Nat.pow_le_pow_left mm40 _) (Nat.pow_le_pow_right (by decide) (by omega))
            have h4 : 40 ^ 1 = 40 := by decide
            omega
        have := this rows fun q hq => ⟨(hwd q hq).1, w1 q hq⟩
        omega
      have lus : us.length ≤ 10000 := by
        rw [I6.rw.1]
        exact Nat.le_trans I6.sb.length_le les
      refine ⟨fun σ H' => ∃ (R2 : Addr) (us2 : List Addr) (rs2 : List REnt), σ = [some (.ref x), some (.ref r), some (.int (many : Nat)), some (.int (rest : Nat)), some (.ref R2), some (.ref Tb), x6, x7, x8, x9, x10, x11, x12, x13, none, none, none] ∧ RI P w x Tb R many rest (ksOf rows many) es rs us H H' ∧ H' R2 = some (.lst (us2.map V.ref)) ∧ RwAt H' us2 rs2 ∧ rs2.Perm rs ∧ R2 ≠ x, ?_, ?_⟩
      · refine ⟨_, rfl, x, 2, rfl, I6.b, by decide, by decide, fun H7 tn k7 b7 htn => ⟨rfl, _, rfl, ite2 (fun _ => ?_) (fun _ => ?_)⟩⟩
        · have I7 := I6.draw k7 b7 hRx
          refine ⟨_, rfl, R, _, rfl, SqL.of I7.r, fun p hp => ?_⟩
          have s8 := (Same.refl H7).upd_new (o := .lst (us.map V.ref).reverse) hp
          exact ⟨p, us.reverse, rs.reverse, rfl, I7.sm s8, by rw [upd_same, List.map_reverse], I7.rw.rev.keep (fun _ _ q => s8 _ _ q), List.reverse_perm rs, I7.b.ne hp⟩
        · have I7 := I6.draw k7 b7 hRx
          exact ⟨R, us, rs, rfl, I7, I7.r, I7.rw, List.Perm.refl _, hRx⟩
      rintro σ H7 ⟨R2, us2, rs2, rfl, I7, R27, rw27, pm, nR2⟩
      refine ⟨_, rfl, x, 9, rfl, I7.b, by decide, by decide, fun H8 pe k8 b8 hpe => ⟨_, _, rfl, rfl, ?_⟩⟩
      have I8 := I7.draw k8 b8 hRx
      refine ⟨_, rfl, _, rfl, _, _, rfl, rfl, x, _, rfl, b8, by omega, by omega, fun H9 re k9 b9 hre9 => ?_⟩
      have I9 := I8.draw k9 b9 hRx
      have R29 := k9 _ _ (k8 _ _ R27 nR2) nR2
      have rw29 := (rw27.keep (I7.b.tk k8)).keep (I8.b.tk k9)
      refine ⟨_, rfl, _, rfl, by omega, by omega, fun D1 hD1 => ?_⟩
      rw [Int.toNat_natCast]
      have ep : (1 : Int) + ((pe : Nat) : Int) = ((1 + pe : Nat) : Int) := by omega
      refine lc_it (walk_range (lo := 0) (n := many)) (fun i H' => Same H9 H' ∧ H' D1 = some (.lst (nI ((List.range i).filter fun j => decide (j % (1 + pe) = re))))) ⟨(Same.refl H9).upd_new hD1, upd_same⟩ (fun _ _ _ _ => True.intro) ?_ ?_
      · rintro i v H10' H10 hi ⟨s10, d10⟩ ⟨rfl, rfl⟩
        have e0 : (0 : Int) + ((i : Nat) : Int) = ((i : Nat) : Int) := by omega
        have em : (((0 : Int) + ((i : Nat) : Int)) % ((1 : Int) + ((pe : Nat) : Int))) = ((i % (1 + pe) : Nat) : Int) := by rw [e0, ep]; exact (Int.natCast_emod i (1 + pe)).symm
        have en : nI ((List.range (i + 1)).filter fun j => decide (j % (1 + pe) = re)) = nI ((List.range i).filter fun j => decide (j % (1 + pe) = re)) ++ if i % (1 + pe) = re then [V.int ((i : Nat) : Int)] else [] := by
          rw [List.range_succ, List.filter_append, List.filter_cons, List.filter_nil]
          unfold nI
          rw [List.map_append]
          by_cases q : i % (1 + pe) = re
          · rw [if_pos q, if_pos (decide_eq_true q)]
            rfl
          · rw [if_neg q, if_neg (fun z => q (of_decide_eq_true z))]
            rfl
        refine ⟨rfl, _, rfl, _, rfl, _, _, rfl, rfl, by omega, _, rfl, rfl, _, rfl, ?_⟩
        have eb : decide ((fun i j : Int => V.int (i % j)) (0 + ((i : Nat) : Int)) (1 + ((pe : Nat) : Int)) = V.int ((re : Nat) : Int)) = decide (((i % (1 + pe) : Nat) : Int) = ((re : Nat) : Int)) := by
          show decide (V.int _ = _) = _
          rw [em, veq]
        rw [eb]
        by_cases q : i % (1 + pe) = re
        · rw [if_pos q] at en
          refine ifp (decide_eq_true (by omega)) ⟨_, rfl, _, d10, ?_, s10.upd_own hD1, ?_⟩
          · rw [nI_len]
            exact lt_line (Nat.le_trans (List.length_filter_le _ _) (by rw [List.length_range]; omega))
          · rw [upd_same, en]
            show some (HO.lst (_ ++ [V.int (0 + ((i : Nat) : Int))])) = some (HO.lst (_ ++ [V.int ((i : Nat) : Int)]))
            rw [e0]
        · rw [if_neg q, List.append_nil] at en
          refine ifn (fun z => q (by have := of_decide_eq_true z; omega)) ⟨s10, ?_⟩
          rw [en]
          exact d10
      · rintro H10 ⟨s10, d10⟩
        refine ⟨D1, _, rfl, .inl ⟨SqL.of d10, fun tM htM => ?_⟩⟩
        have s11 := s10.trans ((Same.refl H10).upd_new (o := .tup (nI ((List.range many).filter fun j => decide (j % (1 + pe) = re)))) htM)
        have m11 : (upd H10 tM (.tup (nI ((List.range many).filter fun j => decide (j % (1 + pe) = re))))) tM = some (.tup (nI ((List.range many).filter fun j => decide (j % (1 + pe) = re)))) := upd_same
        generalize upd H10 tM (.tup (nI ((List.range many).filter fun j => decide (j % (1 + pe) = re)))) = H11 at s11 m11
        have pw : ((List.range many).filter fun j => decide (j % (1 + pe) = re)).Pairwise (· < ·) := List.Pairwise.sublist List.filter_sublist List.pairwise_lt_range
        have ml : ∀ m ∈ ((List.range many).filter fun j => decide (j % (1 + pe) = re)), m < many := fun m hm => List.mem_range.mp (List.mem_filter.mp hm).1
        generalize ((List.range many).filter fun j => decide (j % (1 + pe) = re)) = ms at m11 pw ml
        refine ⟨_, rfl, _, rfl, R2, _, rfl, .inl ⟨SqL.of (s11 _ _ R29), fun tR htR => ?_⟩⟩
        have s12 := s11.trans ((Same.refl H11).upd_new (o := .tup (us2.map V.ref)) htR)
        have t12 : (upd H11 tR (.tup (us2.map V.ref))) tR = some (.tup (us2.map V.ref)) := upd_same
        have m12 : (upd H11 tR (.tup (us2.map V.ref))) tM = some (.tup (nI ms)) := by rw [upd_ne (ne_of_none m11 htR)]; exact m11
        generalize upd H11 tR (.tup (us2.map V.ref)) = H12 at s12 t12 m12
        refine ⟨_, rfl, _, rfl, _, rfl, le_line (show 5 ≤ 10000000 by decide), fun a ha => ?_⟩
        have I12 := I9.sm s12
        have sl2 := (Same.refl H12).upd_new (o := .lst [.int ((many : Nat) : Int), .ref tR, .int ((rest : Nat) : Int), .ref tM, .ref Tb]) ha
        refine key _ a ⟨many, rest, es, rs2, ms⟩ (I12.k.trans (Kp.same sl2)) (I12.b.same sl2) (I12.ok Ro (by omega) mm40 hre pm pw ml les) rfl (I12.k.freeT I12.b ha) (I12.b.ne ha) ⟨tR, tM, Tb, us2, upd_same, sl2 _ _ t12, (rw29.keep (fun _ _ q => s12 _ _ q)).keep (fun _ _ q => sl2 _ _ q), sl2 _ _ m12, I12.t.sm sl2⟩
end
end Sh
end
section
set_option Elab.async false
set_option linter.all false
set_option maxRecDepth 100000
set_option maxHeartbeats 8000000
namespace Sh
open PySem PySem.Spec PyProof.Rows L2
open C8 (pss_cut tCut)
open Evl (ixN_nat)
theorem rgV_nI (n : Nat) : rgV 0 ((n : Nat) : Int) = nI (List.range n) := by
  unfold rgV nI
  rw [Int.sub_zero, Int.toNat_natCast]
  refine List.map_congr_left fun i _ => ?_
  show V.int (0 + (i : Int)) = _
  rw [Int.zero_add]
section
variable {P : Program} {w : World} {K : PySem.W.Frag} {mg : Str → Option Value} {base : Heap}
end
end Sh
end
section
set_option Elab.async false
set_option linter.all false
set_option maxRecDepth 100000
set_option maxHeartbeats 8000000
namespace Sh
open PySem PySem.Spec PyProof.Rows L2
open C8 (pss_cut tCut)
open Evl (ixN_nat)
theorem ways_lenM {M : Nat} {ls : List (List Nat)} (h3 : ∀ l ∈ ls, l.length ≤ M) : ∀ i, i ≤ ls.length → (ways (ls.take i)).length ≤ M ^ i := fun i => by
  induction i with
  | zero => intro _; rw [List.take_zero]; exact Nat.le_refl 1
  | succ i ih =>
    intro hi
    have e := List.getElem?_eq_getElem (show i < ls.length from hi)
    rw [ways_succ e, wstep_len, Nat.pow_succ]
    exact Nat.mul_le_mul (ih (Nat.le_of_lt hi)) (h3 _ (List.getElem_mem hi))
def spRowsFrom6 : Sp := fun vs H Q _ => ∃ (B : Addr) (bs : List Addr) (ls : List (List Nat)), vs = [.ref B] ∧ H B = some (.lst (bs.map V.ref)) ∧ LsAt H bs ls ∧ ls.length ≤ 3 ∧ (∀ l ∈ ls, l.length ≤ 60) ∧ ∀ H' L, Same H H' → H L = none → WaysAt H' L (ways ls) → Q (.ref L) H'
def spAllRows6 : Sp := fun vs H Q _ => ∃ (B : Addr) (l : List Nat) (n : Nat), vs = [.ref B, .int (n : Nat)] ∧ H B = some (.lst (nI l)) ∧ n ≤ 3 ∧ l.length ≤ 60 ∧ ∀ H' L, Same H H' → H L = none → WaysAt H' L (ways (List.replicate n l)) → Q (.ref L) H'
theorem rep_mem {n : Nat} {l ss : List Nat} : ss ∈ ways (List.replicate n l) ↔ ss.length = n ∧ ∀ s ∈ ss, s ∈ l := by
  rw [ways_mem, List.length_replicate]
  constructor
  · rintro ⟨h1, h2⟩
    refine ⟨h1, fun s hs => ?_⟩
    obtain ⟨i, hi, e⟩ := List.mem_iff_getElem.mp hs
    exact h2 i s l (by rw [List.getElem?_eq_getElem hi, e]) (by rw [List.getElem?_replicate, if_pos (by omega)])
  · rintro ⟨h1, h2⟩
    refine ⟨h1, fun i s l' hs hl => ?_⟩
    rw [List.getElem?_replicate] at hl
    split at hl
    · injection hl with hl
      rw [← hl]
      exact h2 s (List.mem_of_getElem? hs)
    · cases hl
abbrev N_all_rows : List Str := ["states", "many"]
theorem sc_all_rows : FnScope N_all_rows ["states", "many"] (defScope s_all_rows) := ⟨rfl, rfl, rfl, by decide +kernel, rfl, by decide +kernel, by decide +kernel⟩
abbrev N_rows_from : List Str := ["lists", "rows", "states", "row", "state"]
theorem sc_rows_from : FnScope N_rows_from ["lists"] (defScope s_rows_from) := ⟨rfl, rfl, rfl, by decide +kernel, rfl, by decide +kernel, by decide +kernel⟩
section
variable {P : Program} {w : World} {K : PySem.W.Frag} {mg : Str → Option Value} {base : Heap}
theorem ok_rows_from6 (T : Bl mg) (D : Def0 K mg "rows_from" s_rows_from) : DefOk P w K mg base CX0 1 "rows_from" spRowsFrom6 := by
  refine D.ok sc_rows_from (fun vs H Q E h => ?_) (fun _ _ _ _ _ _ us hl => match us, hl with | [_], _ => rfl) (fun f cdv A outer s' H vs Q E hr h => ?_)
  · obtain ⟨B, bs, ls, rfl, _⟩ := h
    rfl
  · obtain ⟨B, bs, ls, rfl, hB, hL, l3, ll3, k⟩ := h
    have lbs : (bs.map V.ref).length = ls.length := by rw [List.length_map, hL.1]
    refine ⟨_, (pss_cons (ps_set (i := 1) sc_rows_from.nd rfl (Or.inl rfl) (pe_lst (pa_cons (pe_tup pa_nil) pa_nil)))
      (pss_cons (ps_for PassesOwn.never rfl (pi_list (pv 0)) (pg_name (i := 2) sc_rows_from.nd rfl (Or.inr rfl))
        (pss_one (ps_setLc2 (i := 1) (own := [("row", 3), ("state", 4)]) (vs1 := [4]) (g := (gName 3)) (g1 := (gName 4)) (tt := tYes) (tt1 := tYes) rfl sc_rows_from.nd rfl rfl (sw_true rfl rfl rfl (by decide +kernel)) (pi_list (pv 1)) (blkOk_by (N := N_rows_from) (sc := defScope s_rows_from) (by decide +kernel)) (by decide) (fun _ _ _ _ _ => (pg_name (i := 3) sc_rows_from.nd rfl (Or.inl rfl))) (fun _ _ _ _ _ => pts_nil) (fun _ _ _ _ _ => (show PI _ _ _ (iList K _) from (pi_list (pv 2)))) (fun _ _ _ _ _ => (pg_name (i := 4) sc_rows_from.nd rfl (Or.inl rfl))) (fun _ _ _ _ _ => pts_nil) (fun _ _ _ _ _ => (pe_op (show OpR _ _ (rCatA K) from op_catA) (pv 3) (pe_tup (pa_cons (pv 4) pa_nil)))))))
      (pss_one (ps_ret (pv 1))))), ?_⟩
    refine ⟨le_line (show 0 ≤ 10000000 by decide), fun t ht => ?_⟩
    have s1 := (Same.refl H).upd_new (o := .tup []) ht
    have t1 : (upd H t (.tup [])) t = some (.tup (nI [])) := upd_same
    generalize upd H t (.tup []) = H1 at s1 t1
    refine ⟨le_line (show 1 ≤ 10000000 by decide), fun F hF => ?_⟩
    have s2 := s1.upd_new (o := .lst [.ref t]) hF
    have F2 : (upd H1 F (.lst [.ref t])) F = some (.lst ([t].map V.ref)) := upd_same
    have t2 : (upd H1 F (.lst [.ref t])) t = some (.tup (nI [])) := by rw [upd_ne (ne_of_none t1 hF)]; exact t1
    generalize upd H1 F (.lst [.ref t]) = H2 at s2 F2 t2
    refine ⟨_, rfl, B, rfl, ⟨_, SqL.of (s2 _ _ hB)⟩, for_list (xs := bs.map V.ref) (fun i σ H' => ∃ (x2 x3 x4 : Option V) (F : Addr), σ = [some (.ref B), some (.ref F), x2, x3, x4] ∧ Same H H' ∧ H F = none ∧ WaysAt H' F (ways (ls.take i)))
      ⟨none, none, none, F, rfl, s2, s1.free hF, [t], F2, .one t2⟩ (fun i σ H' _ ⟨_, _, _, _, _, s, _⟩ => SqL.of (s _ _ hB)) ?_ ?_⟩
    · rintro i v σ H3 hv ⟨x2, x3, x4, F3, rfl, s3, _, us, hus, hP⟩
      obtain ⟨b, hb, rfl⟩ := get_map_r hv
      have hil : i < ls.length := by rw [← hL.1]; exact (List.getElem?_eq_some_iff.mp hb).1
      have hl := List.getElem?_eq_getElem hil
      have l3' := ll3 _ (List.getElem_mem hil)
      generalize ls[i] = l at hl l3'
      have hbl := hL.2 i b l hb hl
      have lw : (ways (ls.take i)).length ≤ 4000 := Nat.le_trans (ways_lenM ll3 i (by omega)) (Nat.le_trans (Nat.pow_le_pow_right (by decide) (show i ≤ 2 by omega)) (by decide))
      have er := ways_succ hl
      have lf : ∀ z ∈ ways (ls.take i), z.length ≤ 3 := fun z hz => by
        rw [(ways_mem.mp hz).1, List.length_take]
        omega
      generalize ways (ls.take i) = f at hP lw er lf
      have lus : (us.map V.ref).length = f.length := by rw [List.length_map, hP.1]
      refine ⟨_, rfl, F3, rfl, ⟨_, SqL.of hus⟩, fun W hW => lc2_it (walk_list (xs := us.map V.ref)) (fun j H' => Same H3 H' ∧ ∃ ws : List Addr, H' W = some (.lst (ws.map V.ref)) ∧ PlAt nI H' ws (wstep (f.take j) l)) ⟨(Same.refl H3).upd_new hW, [], upd_same, .nil⟩ (fun j H' _ ⟨q, _⟩ => SqL.of (q _ _ hus)) ?_ ?_⟩
      · rintro j v H5' H5 hj ⟨s5, ws, W5, R5⟩ ⟨rfl, hv⟩
        obtain ⟨u, hu, rfl⟩ := get_map_r hv
        have hjl : j < f.length := by rw [← hP.1]; exact (List.getElem?_eq_some_iff.mp hu).1
        have hf := List.getElem?_eq_getElem hjl
        generalize f[j] = row at hf
        have hu5 := s5 _ _ (hP.2 j u row hu hf)
        have lr := lf row (List.mem_of_getElem? hf)
        refine ⟨rfl, _, rfl, b, rfl, ⟨_, SqL.of ((s3.trans s5) _ _ hbl)⟩, in_it (walk_list (xs := nI l)) (fun k H' => Same H3 H' ∧ ∃ ws : List Addr, H' W = some (.lst (ws.map V.ref)) ∧ PlAt nI H' ws (wstep (f.take j) l ++ (l.take k).map fun s => row ++ [s])) ⟨s5, ws, W5, by rw [List.take_zero, List.map_nil, List.append_nil]; exact R5⟩ (fun k H' _ ⟨q, _⟩ => SqL.of ((s3.trans q) _ _ hbl)) ?_ ?_⟩
        · rintro k v H6' H6 hk ⟨s6, ws, W6, R6⟩ ⟨rfl, hv⟩
          rw [nI_len] at hk
          have hs := List.getElem?_eq_getElem hk
          rw [nI_at hs] at hv
          injection hv with hv
          subst hv
          generalize l[k] = s at hs
          have hu6 := s6 _ _ (hP.2 j u row hu hf)
          refine ⟨rfl, _, rfl, _, rfl, le_line (show 1 ≤ 10000000 by decide), fun q hq => ?_⟩
          have s7 := (Same.refl H6).upd_new (o := .tup [.int ((s : Nat) : Int)]) hq
          have q7 : (upd H6 q (.tup [.int ((s : Nat) : Int)])) q = some (.tup [.int ((s : Nat) : Int)]) := upd_same
          generalize upd H6 q (.tup [.int ((s : Nat) : Int)]) = H7 at s7 q7
          refine catA_n (s7 _ _ hu6) q7 (by rw [nI_len]; show row.length + 1 ≤ _; omega) fun r H8 s8 hr8 => ?_
          rw [nI_snoc] at hr8
          have s68 := s7.trans s8
          have W8 := s68 _ _ W6
          have R8 := R6.keep fun t ys h => s68 _ _ h
          have ll := wstep_leM (w := row) (j := j) (k := k) hjl (Nat.le_of_lt hk) (by omega) (by omega)
          have kt : ∀ t ys, H8 t = some (.tup ys) → (upd H8 W (.lst (ws.map V.ref ++ [V.ref r]))) t = some (.tup ys) := fun t ys h => by rw [upd_ne (ne_of h W8 (fun e => nomatch e))]; exact h
          refine ⟨_, W8, by rw [List.length_map, R8.1]; exact lt_line (by omega), (s6.trans s68).upd_own hW, ws ++ [r], by rw [upd_same, List.map_append]; rfl, ?_⟩
          rw [wmap_take hs, ← List.append_assoc]
          exact (R8.snoc hr8).keep kt
        · rintro H6 ⟨s6, ws, W6, R6⟩
          refine ⟨s6, ws, W6, ?_⟩
          rw [wstep_take hf]
          rw [nI_len, List.take_length] at R6
          exact R6
      · rintro H5 ⟨s5, ws, W5, R5⟩
        rw [lus, List.take_length, ← er] at R5
        exact ⟨_, _, _, W, rfl, s3.trans s5, s3.free hW, ws, W5, R5⟩
    · rintro σ H3 ⟨x2, x3, x4, F3, rfl, s3, nF, W3⟩
      rw [lbs, List.take_length] at W3
      exact ⟨_, rfl, k _ _ s3 nF W3⟩
theorem ok_all_rows6 (T : Bl mg) (c_rows_from : DefOk P w K mg base CX0 1 "rows_from" spRowsFrom6) (D : Def0 K mg "all_rows" s_all_rows) : DefOk P w K mg base CX0 2 "all_rows" spAllRows6 := by
  refine D.ok sc_all_rows (fun vs H Q E h => ?_) (fun _ _ _ _ _ _ us hl => match us, hl with | [_, _], _ => rfl) (fun f cdv A outer s' H vs Q E hr h => ?_)
  · obtain ⟨B, l, n, rfl, _⟩ := h
    rfl
  · obtain ⟨B, l, n, rfl, hB, hn, hl, k⟩ := h
    refine ⟨_, (pss_one (ps_ret (pe_d c_rows_from (hr.mono (by decide)) pass0 (pa_cons (pe_op op_rep (pe_lst (pa_cons (pv 0) pa_nil)) (pv 1)) pa_nil)))), ?_⟩
    refine ⟨_, rfl, le_line (show 1 ≤ 10000000 by decide), fun l1 hl1 => ?_⟩
    have s1 := (Same.refl H).upd_new (o := .lst [.ref B]) hl1
    have e1 : (upd H l1 (.lst [.ref B])) l1 = some (.lst [.ref B]) := upd_same
    generalize upd H l1 (.lst [.ref B]) = H1 at s1 e1
    refine ⟨_, rfl, l1, _, _, rfl, rfl, e1, by omega, by omega, by rw [Int.toNat_natCast]; exact le_line (show 1 * n ≤ 10000000 by omega), fun p hp => ?_⟩
    rw [Int.toNat_natCast]
    have er : (List.replicate n [V.ref B]).flatten = (List.replicate n B).map V.ref := by
      rw [List.map_replicate]
      clear k hn s1 e1
      induction n with
      | zero => rfl
      | succ n ih => rw [List.replicate_succ, List.flatten_cons, ih, List.replicate_succ]; rfl
    rw [er]
    have s2 := s1.trans ((Same.refl H1).upd_new (o := .lst ((List.replicate n B).map V.ref)) hp)
    refine ⟨p, List.replicate n B, List.replicate n l, rfl, upd_same, ⟨by rw [List.length_replicate, List.length_replicate], fun i b l' h1 h2 => ?_⟩, by rw [List.length_replicate]; exact hn, fun l' hl' => by rw [List.eq_of_mem_replicate hl']; exact hl, fun H' L s3 hL W => k H' L (s2.trans s3) (s2.free hL) W⟩
    rw [List.eq_of_mem_replicate (List.mem_of_getElem? h1), List.eq_of_mem_replicate (List.mem_of_getElem? h2)]
    exact s2 _ _ hB
end
section
variable {P : Program} {w : World} {K : PySem.W.Frag} {mg : Str → Option Value} {base : Heap}
end
end Sh
end
section
set_option Elab.async false
set_option linter.all false
set_option maxRecDepth 100000
set_option maxHeartbeats 2000000
set_option autoImplicit false
namespace L2
open PySem PySem.Spec PyProof.Rows
section
variable {X : Cx}
end
def wManyAs (K : PySem.W.Frag) (D : Ends) : List (Value × Nat × (Addr → Value → Option Addr → TS)) → WX
  | [] => fun _ _ _ _ => False
  | (c, i, ts) :: r => fun cls d σ H => ∃ b, PySem.W.exmOne K cls c = some b ∧ (b = true → ∀ a, H a = none → ts a cls d { nx := fun σ' H' => D.nx (σ'.set i none) H', rt := D.rt, bk := fun σ' H' => D.bk (σ'.set i none) H', ct := fun σ' H' => D.ct (σ'.set i none) H' } (σ.set i (some (.ref a))) H) ∧
      (b = false → wManyAs K D r cls d σ H)
inductive HdsAs (X : Cx) : List ExceptHandler → List (Value × Nat × (Addr → Value → Option Addr → TS)) → Prop
  | nil : HdsAs X [] []
  | cons {x n : Str} {c : Value} {i : Nat} {ts : Addr → Value → Option Addr → TS} {b₀ : Stmt} {suite : List Stmt} {np pos' : Pos} {hds : List ExceptHandler} {l : List (Value × Nat × (Addr → Value → Option Addr → TS))} (hi : X.N[i]? = some n) (hln : X.env.kindOf n = some .local) (hc : Names X x c)
      (hsu : ∀ (a : Addr) (oe : Obj) (cls : Value) (d : Option Addr) (pn : List (Addr × Obj)), Zc cls d oe → (∃ vs, oe.data = .fields vs) → PSs (X.suite a ((a, oe) :: pn)) (b₀ :: suite) (ts a cls d)) (r : HdsAs X hds l) :
      HdsAs X (.ExceptHandler (some (.Name x np)) (some n) (b₀ :: suite) pos' :: hds) ((c, i, ts) :: l)
section
variable {X : Cx} {pins : List (Addr × Obj)} {σ : St} {H : Hp} {s : Shared} {a : Addr} {cls : Value} {d : Option Addr}
theorem hds_as {D : Ends} (hf : X.env.frame = some X.env.locals) (hN : X.N.Nodup) {hds : List ExceptHandler} {l : List (Value × Nat × (Addr → Value → Option Addr → TS))} (hh : HdsAs X hds l) (ok : X.Ok) (C : Caught X pins σ H s a cls d) (w : wManyAs X.K D l cls d σ H) :
    wpAny (model X.prog X.w) X.A (handleBy (.ref a) X.env hds) (SP X pins D) X.xe s := by
  induction hh with
  | nil => exact w.elim
  | @cons x n c i ts b₀ suite np pos' hds l hi hln hc hsu r ih =>
    obtain ⟨na, B, fl, back⟩ := id C
    obtain ⟨b, hm, hyes, hno⟩ := w
    have I0 : Inv X pins σ H s := back s.heap fl (fun b o e _ => ⟨o.slots, e⟩)
    obtain ⟨oe, hd, he, hz, S⟩ := suite_of hf fl I0 na
    refine wpAny_handleBy_cons (codeAny_handlers_test ?_) (by intro q; cases q)
    have look : PySem.W.Looks (model X.prog X.w) s.heap (typeOf (.ref a)) cls := fun A Q E s k q => wpAny_typeOf_ref (k _ _ he) (by rw [hz.1]; exact q)
    have name : ∀ {Q : Value → Shared → Prop} {E : Value → Shared → Prop}, Q c s → wpAny (model X.prog X.w) (X.A.mark (some (.ref a))) (eval (.Name x np) X.env) Q E s := fun {Q E} q => by
      obtain ⟨hg, hdbg, hm | ⟨hm, hv, hnn⟩⟩ := hc
      · exact ld_glob (X := X.suite a ((a, oe) :: (X.pn ++ pins))) S hg hm q hdbg
      · exact ld_blt (X := X.suite a ((a, oe) :: (X.pn ++ pins))) S hg hm hv q hnn hdbg
    have LM := PySem.W.exm_one (M := model X.prog X.w) I0.kIn look hm
    cases b with
    | false =>
      refine name (LM.here ?_)
      show wpAny _ X.A (handleBy (.ref a) X.env hds) _ _ _
      exact ih (hno rfl)
    | true =>
      refine name (LM.here (codeAny_handlers_suite_as ?_))
      refine HandSPX.lands_againZ fl fun h4 fl4 up4 => ?_
      obtain ⟨oe4, hd4, _, hz4, S4⟩ := suite_of (s := { s with heap := h4 }) hf fl4 (back h4 fl4 up4) na
      refine store_ok (X := X.suite a ((a, oe4) :: (X.pn ++ pins))) (v := .ref a) S4 hN hi (.inl hln) rfl (fun s5 S5 => ?_) (.inr hln)
      have R := (hsu a oe4 cls d (X.pn ++ pins) hz4 hd4).run [] s5 _ H _ S5 (hyes rfl a na)
      refine wpAny_mono R (fun f s6 hsp => ?_) fun _ _ z => z.elim
      cases f with
      | ret u =>
        obtain ⟨v6, σ6, H6, S6, r6, q6⟩ := hsp
        exact gone_ok (S6.unsuite ok) hN hi hln fun s7 J7 => ⟨_, _, _, J7, r6, q6⟩
      | next =>
        obtain ⟨σ6, H6, S6, q6⟩ := hsp
        exact gone_ok (S6.unsuite ok) hN hi hln fun s7 J7 => ⟨_, _, J7, q6⟩
      | brk =>
        obtain ⟨σ6, H6, S6, q6⟩ := hsp
        exact gone_ok (S6.unsuite ok) hN hi hln fun s7 J7 => ⟨_, _, J7, q6⟩
      | cont =>
        obtain ⟨σ6, H6, S6, q6⟩ := hsp
        exact gone_ok (S6.unsuite ok) hN hi hln fun s7 J7 => ⟨_, _, J7, q6⟩
theorem ps_try_as_many {body : List Stmt} {h₀ : ExceptHandler} {hds : List ExceptHandler} {l : List (Value × Nat × (Addr → Value → Option Addr → TS))} {pos : Pos} {tb : WX → TS} (hs : X.stack = X.env :: X.outer) (hf : X.env.frame = some X.env.locals) (hN : X.N.Nodup)
    (hb : ∀ (W : WX) (pn : List (Addr × Obj)) (xe : Value → Shared → Prop), Takes (X.tr pn xe) W → PassesOwn (model X.prog X.w) X.A X.env xe → PSs (X.tr pn xe) body (tb W))
    (hh : HdsAs X (h₀ :: hds) l) : PS X (.Try body (h₀ :: hds) [] [] pos) (fun D σ H => tb (wManyAs X.K D l) D σ H) :=
  ps_try_by (Wd := fun D => wManyAs X.K D l) hs hf hb fun pins D σ H s a cls d ok C w => hds_as hf hN hh ok C w
end
section
variable {X : Cx} {C : Addr} {bmB : List Value} {B newId initId : String}
end
end L2
end
section
set_option Elab.async false
set_option linter.all false
set_option maxRecDepth 100000
set_option maxHeartbeats 2000000
set_option autoImplicit false
namespace L2
open PySem PySem.Spec PyProof.Rows
theorem run_fnRS {X : Cx} {CX : CXT} {k : Nat} {f : Addr} {sp : Sp} {E : L2.St → XK} {us : List Value} {vs : List V} {pins : List (Addr × Obj)} {σ : L2.St} {H : Hp} {s : Shared} {Q : VK} (F : FnR X.prog X.w X.K X.mg X.base CX k f sp) (hr : Room k X.A) (hx : ∀ σ, PassesAt CX X σ (E σ)) (I : Inv X pins σ H s) (r : Vals vs us) (q : sp vs H Q (E σ)) :
    codeAny (model X.prog X.w) X.A (.call (.ref f) ⟨us, []⟩) (fun r s' => match r with
      | .ok (.ret v) => EP X pins σ Q v s'
      | .ok _ => False
      | .error e => X.xe e s') s := by
  refine codeAny_mono (F X.A X.stack s H us vs Q (E σ) hr I.env0 r q) fun r s' hq => ?_
  cases r with
  | error e => exact hx σ pins H s e s' I hq
  | ok fl =>
    cases fl with
    | ret u => exact I.after hq
    | next => exact hq.elim
    | brk => exact hq.elim
    | cont => exact hq.elim
/-- o.m(..) where exceptions are wished for at the slots at hand -/
def tMethZ (C : Addr) (m : Str) (sp : Sp) (E : L2.St → XK) (ta : TE) (t : TA) : TE := fun σ H Q => ta σ H fun x H1 => ∃ a dx fs, x = .ref a ∧ H1 a = some (.ins C dx fs) ∧ List.lookup m fs = none ∧ t σ H1 fun vs H2 => sp (x :: vs) H2 Q (E σ)
theorem pe_methZ {X : Cx} {CX : CXT} {k : Nat} {C f : Addr} {m : Str} {sp : Sp} {E : L2.St → XK} {o e : Expr} {es : List Expr} {ta : TE} {t : TA} {apos pos : Pos} {pl : Sem Bool} (he : PE X o ta) (c : Cls X.K C) (hm : Meth X.K C m f)
    (F : FnR X.prog X.w X.K X.mg X.base CX k f sp) (hr : Room k X.A) (hx : ∀ σ, PassesAt CX X σ (E σ)) (ha : PA X (e :: es) t)
    (hs : starEach (e :: es) X.env = (false, eval e X.env) :: starEach es X.env := by rfl) (hpl : (backTo pos (starEach es X.env)).any (·.1) = false := by rfl)
    (ht : eval (.Call (.Attribute o m apos) (e :: es) [] pos) X.env = (do
      let ov ← eval o X.env
      standAt apos.atName
      let (f, first) ← holding [ov] (getMethod ov m pl)
      callWith pos f first (backTo pos (starEach (e :: es) X.env)) (backToKw pos (keywordEach [] X.env))) := by rfl) :
    PE X (.Call (.Attribute o m apos) (e :: es) [] pos) (tMethZ C m sp E ta t) := by
  refine ⟨fun pins s σ H Q I h => ?_⟩
  refine PySem.W.methodCall_KW (pl := pl) (thn (he.run pins s σ H _ I h) fun u s1 ⟨x, H1, I1, rx, a, dx, fs, ex, ea, l, q⟩ => ?_) ht
  subst ex
  obtain rfl : u = Value.ref a := rx
  refine getmeth_ok I1 ea c hm l ?_
  refine PySem.W.callWith_K (h₀ := X.base) (first := [.ref a]) I1.ok.mod.kin hm.kp (thn (ha.run pos pins s1 σ H1 _ I1 q) fun us s2 ⟨vs, H2, I2, r, q2⟩ => ⟨I2.kIn, ?_⟩) hs hpl
  exact wpAny_call (run_fnRS (us := .ref a :: us) (vs := .ref a :: vs) F hr hx I2 (.cons rfl r) q2)
def tInO (C : Addr) (sp : Sp) (E : L2.St → XK) (ti to : TE) : TE := fun σ H Q => ti σ H fun v H1 => to σ H1 fun x H2 => ∃ a dx fs, x = .ref a ∧ H2 a = some (.ins C dx fs) ∧ sp [x, v] H2 (fun r H3 => ∃ b : Bool, r = .bl b ∧ Q (.bl b) H3) (E σ)
theorem pc_inO {X : Cx} {CX : CXT} {k : Nat} {C f : Addr} {sp : Sp} {E : L2.St → XK} {i o : Expr} {ti to : TE} (hi : PE X i ti) (ho : PE X o to) (hm : Meth X.K C "__contains__" f) (F : FnR X.prog X.w X.K X.mg X.base CX k f sp) (hr : Room k X.A) (hx : ∀ σ, PassesAt CX X σ (E σ)) : PC X .In i o (tInO C sp E ti to) := by
  refine ⟨fun pins s σ H Q I h => ?_⟩
  refine thn (hi.run pins s σ H _ I h) fun u s1 ⟨v, H1, I1, rv, q1⟩ => ?_
  refine thn (ho.run pins s1 σ H1 _ I1 q1) fun u2 s2 ⟨x, H2, I2, rx, a, dx, fs, ex, ea, q⟩ => ?_
  subst ex
  obtain rfl : u2 = Value.ref a := rx
  obtain ⟨_, _, _, hobj, mA, hns, _⟩ := (show ObjOk X.prog X.w H2 s2.heap a (.ins C dx fs) from I2.hok a _ ea)
  obtain ⟨od, hod, _⟩ := lookIn_ns hns
  have hI : PySem.W.InstAt s2.heap a (PySem.W.instObj C dx) C (some od) := ⟨hobj, rfl, rfl, hod⟩
  obtain ⟨m, hfr⟩ := I2.fr
  show wpAny _ _ (contains (Value.ref a) u >>= fun b => pure (Value.bool b)) _ _ _
  refine wpAny_bind ?_
  refine PySem.W.contains_K hfr I2.ok.mod.kin hI hm.at_ hm.fn ?_
  refine wpAny_call (codeAny_mono (run_fnRS (us := [.ref a, u]) (vs := [.ref a, v]) F hr hx I2 (.cons rfl (.cons rv .nil)) q) fun r s' hq => ?_)
  cases r with
  | error e => exact hq
  | ok fl =>
    cases fl with
    | ret u =>
      obtain ⟨v', H', I', rv', b, ev, q'⟩ := hq
      subst ev
      obtain rfl : u = Value.bool b := rv'
      exact wpAny_truthy_bool (wpAny_pure ⟨.bl b, H', I', rfl, q'⟩)
    | next => exact hq.elim
    | brk => exact hq.elim
    | cont => exact hq.elim
end L2
end
section
set_option Elab.async false
set_option linter.all false
set_option maxRecDepth 100000
set_option maxHeartbeats 2000000
set_option autoImplicit false
namespace L2
open PySem PySem.Spec PyProof.Rows
section
variable {X : Cx} {pins : List (Addr × Obj)} {σ : St} {H : Hp} {s : Shared} {a b : Addr} {kvs : List (NKey × V)} {k : NKey} {A : Around} {E : Value → Shared → Prop}
theorem nd_in {Q : Value → Shared → Prop} (hu : A.units + 2 < cLine) (I : Inv X pins σ H s) (e : NdAt X.prog X.w H a kvs) (eb : NKAt H k b) (h : ∀ s', Inv X pins σ H s' → Q (.bool (valV kvs k).isSome) s') :
    wpAny (model X.prog X.w) A (compareOp .In (.ref b) (.ref a)) Q E s := by
  obtain ⟨z, hd, xs, rel, _, dd⟩ := nd_rd I.hok e
  refine wpAny_in_heap (nest_room hu) (nkey_of I.hok eb) hd dd ?_
  have q := (rel.val k).isSome_eq
  rw [Option.isSome_map] at q
  rw [← q]
  exact h _ (I.tok _)
end
def tNIn (P : Program) (w : World) (ty td : TE) : TE := fun σ H Q => ty σ H fun y H1 => td σ H1 fun x H2 => ∃ a b kvs k, x = .ref a ∧ y = .ref b ∧ NdAt P w H2 a kvs ∧ NKAt H2 k b ∧ Q (.bl (valV kvs k).isSome) H2
section
variable {X : Cx} {o i : Expr} {td ty : TE}
theorem pc_nin (hu : X.A.units + 2 < cLine) (hi : PE X i ty) (ho : PE X o td) : PC X .In i o (tNIn X.prog X.w ty td) := by
  refine ⟨fun pins s σ H Q I h => ?_⟩
  refine thn (hi.run pins s σ H _ I h) fun iv s1 ⟨y, H1, I1, ry, q1⟩ => thn (ho.run pins s1 σ H1 _ I1 q1) fun u s2 ⟨x, H2, I2, rx, a, b, kvs, k, ex, ey, g, gk, q2⟩ => ?_
  subst ex ey
  obtain rfl : u = Value.ref a := rx
  obtain rfl : iv = Value.ref b := ry
  exact nd_in hu I2 g gk fun s3 I3 => ⟨.bl (valV kvs k).isSome, H2, I3, rfl, q2⟩
end
end L2
end
section
set_option Elab.async false
set_option linter.all false
set_option maxRecDepth 100000
set_option maxHeartbeats 16000000
namespace Sh
open PySem PySem.Spec PyProof.Rows L2 NdefX LamX
open C8 (pss_cut tCut)
open Evl (ixN_nat)
section
variable {κ : Type} [DecidableEq κ]
theorem valV_mem : ∀ {kvs : List (κ × V)} {k : κ} {v : V}, valV kvs k = some v → (k, v) ∈ kvs
  | [], _, _, h => by cases h
  | p :: r, k, v, h => by
    by_cases e : p.1 = k
    · rw [valV_pos e] at h
      cases h
      rw [← e]
      exact List.mem_cons_self
    · rw [valV_neg e] at h
      exact List.mem_cons_of_mem _ (valV_mem h)
end
theorem rd_lk (b d m : Addr) (n o : Nat) : (rdF b n d m o).lookup ("cells" : Str) = some (.ref d) ∧ (rdF b n d m o).lookup ("otherwise" : Str) = some (.int ((o : Nat) : Int)) ∧ (rdF b n d m o).lookup ("marks" : Str) = some (.ref m) ∧ (rdF b n d m o).lookup ("bed" : Str) = some (.ref b) ∧ (rdF b n d m o).lookup ("states" : Str) = some (.int ((n : Nat) : Int)) := by
  have h1 : (("cells" : Str) == "bed") = false := by decide +kernel
  have h2 : (("cells" : Str) == "states") = false := by decide +kernel
  have h3 : (("otherwise" : Str) == "bed") = false := by decide +kernel
  have h4 : (("otherwise" : Str) == "states") = false := by decide +kernel
  have h5 : (("otherwise" : Str) == "cells") = false := by decide +kernel
  have h6 : (("otherwise" : Str) == "marks") = false := by decide +kernel
  have h7 : (("marks" : Str) == "bed") = false := by decide +kernel
  have h8 : (("marks" : Str) == "states") = false := by decide +kernel
  have h9 : (("marks" : Str) == "cells") = false := by decide +kernel
  have hA : (("states" : Str) == "bed") = false := by decide +kernel
  simp [rdF, List.lookup, h1, h2, h3, h4, h5, h6, h7, h8, h9, hA]
/-- the scope of the comprehension that a def returns as a tuple -/
def Sam6 : Nat → Hp → V → V → Prop
  | 0, _, _, _ => False
  | n + 1, H, v, u => (∃ i, v = .int i ∧ u = .int i) ∨ (∃ z : Str, v = .str z ∧ u = .str z) ∨ (∃ b : Bool, v = .bl b ∧ u = .bl b) ∨
    ∃ (a b : Addr) (xs ys : List V), v = .ref a ∧ u = .ref b ∧ H a = some (.tup xs) ∧ H b = some (.tup ys) ∧ xs.length = ys.length ∧ xs.length ≤ 10000000 ∧ ∀ (i : Nat) (x y : V), xs[i]? = some x → ys[i]? = some y → Sam6 n H x y
theorem Sam6.same : ∀ {n : Nat} {H H' : Hp} {v u : V}, Sam6 n H v u → Same H H' → Sam6 n H' v u
  | 0, _, _, _, _, h, _ => h
  | n + 1, H, H', v, u, h, s => by
    rcases h with h | h | h | ⟨a, b, xs, ys, e1, e2, h1, h2, h3, h4, h5⟩
    · exact .inl h
    · exact .inr (.inl h)
    · exact .inr (.inr (.inl h))
    · exact .inr (.inr (.inr ⟨a, b, xs, ys, e1, e2, s _ _ h1, s _ _ h2, h3, h4, fun i x y p q => (h5 i x y p q).same s⟩))
def spSam6 (n : Nat) : Sp := fun vs H Q _ => ∃ v u, vs = [v, u] ∧ Sam6 n H v u ∧ ∀ H', Same H H' → Q (.bl true) H'
theorem nd_inr {rows : List Row} {m : Int} (R : ROk m rows) {z : Str} (h : ¬ HasN rows z) : valV (wL rows) (.inr z) = none := by
  cases e : valV (wL rows) (.inr z) with
  | none => rfl
  | some v =>
    have := valV_mem e
    unfold wL at this
    obtain ⟨q, hq, he⟩ := List.mem_map.mp this
    exact absurd ⟨q, hq, Sum.inr.inj (Prod.mk.inj he).1⟩ h
theorem wL_snoc {rows : List Row} (nd : (rows.map (·.1)).Nodup) {i : Nat} {q : Row} (h : rows[i]? = some q) : putK (wL (rows.take i)) (.inr q.1) (.int q.2) = wL (rows.take (i + 1)) := by
  have hn : valV (wL (rows.take i)) (.inr q.1) = none := by
    cases e : valV (wL (rows.take i)) (.inr q.1) with
    | none => rfl
    | some v =>
      have := valV_mem e
      unfold wL at this
      obtain ⟨q', hq', he⟩ := List.mem_map.mp this
      have e1 := Sum.inr.inj (Prod.mk.inj he).1
      obtain ⟨j, hj⟩ := List.mem_iff_getElem?.mp hq'
      rw [List.getElem?_take] at hj
      split at hj
      · rename_i hji
        have h1 : (rows.map (·.1))[j]? = some q.1 := by rw [List.getElem?_map, hj]; exact congrArg some e1
        have h2 : (rows.map (·.1))[i]? = some q.1 := by rw [List.getElem?_map, h]; rfl
        have := nd_at nd h1 h2
        omega
      · cases hj
  rw [putK_new _ hn, List.take_add_one, h]
  unfold wL
  rw [List.map_append]
  rfl
theorem take_snoc' {α : Type} {l : List α} {i : Nat} {x : α} (h : l[i]? = some x) : l.take (i + 1) = l.take i ++ [x] := by
  rw [List.take_add_one, h]
  rfl
def spSizes : Sp := fun vs H Q _ => ∃ (kd : Addr) (ts : List Addr) (rows : List Row), vs = [.ref kd] ∧ H kd = some (.tup (ts.map V.ref)) ∧ TupsAt H ts rows ∧ ROk 4 rows ∧ ∀ H' d, Same H H' → H' d = some (.dK (wL rows)) → Q (.ref d) H'
abbrev N_law_same : List Str := ["actual", "due", "k"]
theorem sc_law_same : FnScope N_law_same ["actual", "due"] (defScope s_law_same) := ⟨rfl, rfl, rfl, by decide +kernel, rfl, by decide +kernel, by decide +kernel⟩
abbrev N_law_sizes : List Str := ["kinds", "sizes", "name", "size"]
theorem sc_law_sizes : FnScope N_law_sizes ["kinds"] (defScope s_law_sizes) := ⟨rfl, rfl, rfl, by decide +kernel, rfl, by decide +kernel, by decide +kernel⟩
section
variable {P : Program} {w : World} {K : PySem.W.Frag} {mg : Str → Option Value} {base : Heap} {C CR CT : Addr} {Tb : List (Addr × Str)}
theorem ok_sam6 (T : Bl mg) (D : Def0 K mg "_law_same" s_law_same) : ∀ n, DefOk P w K mg base CX0 n "_law_same" (spSam6 n)
  | 0 => by
    obtain ⟨f, fd, hm, F⟩ := D
    exact ⟨f, hm, F.kp, fun A outer s H us vs Q E hr e0 r hs => by obtain ⟨v, u, _, h, _⟩ := hs; exact h.elim⟩
  | n + 1 => by
    have c_law_same := ok_sam6 T D n
    refine D.ok sc_law_same (fun vs H Q E h => by obtain ⟨v, u, rfl, _⟩ := h; rfl) (fun _ _ _ _ _ _ us hl => match us, hl with | [_, _], _ => rfl) (fun f cdv A outer s H vs Q E hr h => ?_)
    obtain ⟨v, u, rfl, hE, k⟩ := h
    refine ⟨_, (pss_cons (ps_if (pt_cmpR op_isN (pv 1) pe_non (nomark _))
        (pss_one (ps_ret (pe_cmpR op_isN (pv 0) pe_non (nomark _))))
        pss_nil)
      (pss_cons (ps_if (pt_val (pe_callB call_isi (by rfl) T.b_isinstance (by decide +kernel) (pa_cons (pv 1) (pa_cons (pe_bltn (v := .ty "tuple") (by rfl) T.b_tuple boot_tuple rfl) pa_nil))))
        (pss_cons (ps_if (PW.pt (pw_or (pt_not (pt_val (pe_callB call_isi (by rfl) T.b_isinstance (by decide +kernel) (pa_cons (pv 0) (pa_cons (pe_bltn (v := .ty "tuple") (by rfl) T.b_tuple boot_tuple rfl) pa_nil))))) (pw_or1 (pt_cmpR op_ne (pe_callB call_len_seq (by rfl) T.b_len boot_len (pa_cons (pv 0) pa_nil)) (pe_callB call_len_seq (by rfl) T.b_len boot_len (pa_cons (pv 1) pa_nil)) (nomark _)))))
          (pss_one (ps_ret pe_bl))
          pss_nil)
        (pss_cons (ps_for PassesOwn.never rfl (pi_range1 (by rfl) T.b_range (pa_cons (pe_callB call_len_seq (by rfl) T.b_len boot_len (pa_cons (pv 1) pa_nil)) pa_nil)) (pg_name (i := 2) sc_law_same.nd rfl (Or.inl rfl))
          (pss_one (ps_if (pt_not (pt_val (pe_d c_law_same hr pass0 (pa_cons (pe_ix ix_tup (pv 0) (pv 2) (fun _ _ => rfl)) (pa_cons (pe_ix ix_tup (pv 1) (pv 2) (fun _ _ => rfl)) pa_nil)))))
            (pss_one (ps_ret pe_bl))
            pss_nil)))
        (pss_one (ps_ret pe_bl))))
        pss_nil)
      (pss_cons (ps_if (pt_val (pe_callB call_isi (by rfl) T.b_isinstance (by decide +kernel) (pa_cons (pv 1) (pa_cons (pe_bltn (v := .ty "bool") (by rfl) T.b_bool boot_bool rfl) pa_nil))))
        (pss_one (ps_ret (pe_and (pe_callB call_isi (by rfl) T.b_isinstance (by decide +kernel) (pa_cons (pv 0) (pa_cons (pe_bltn (v := .ty "bool") (by rfl) T.b_bool boot_bool rfl) pa_nil))) (pe_one (pe_cmpR op_eq (pv 0) (pv 1) (nomark _))))))
        pss_nil)
      (pss_cons (ps_if (pt_val (pe_callB call_isi (by rfl) T.b_isinstance (by decide +kernel) (pa_cons (pv 1) (pa_cons (pe_bltn (v := .ty "int") (by rfl) T.b_int boot_int rfl) pa_nil))))
        (pss_one (ps_ret (pe_and (pe_callB call_isi (by rfl) T.b_isinstance (by decide +kernel) (pa_cons (pv 0) (pa_cons (pe_bltn (v := .ty "int") (by rfl) T.b_int boot_int rfl) pa_nil))) (pe_and (pe_not (pe_callB call_isi (by rfl) T.b_isinstance (by decide +kernel) (pa_cons (pv 0) (pa_cons (pe_bltn (v := .ty "bool") (by rfl) T.b_bool boot_bool rfl) pa_nil)))) (pe_one (pe_cmpR op_eq (pv 0) (pv 1) (nomark _)))))))
        pss_nil)
      (pss_one (ps_ret (pe_and (pe_callB call_isi (by rfl) T.b_isinstance (by decide +kernel) (pa_cons (pv 0) (pa_cons (pe_bltn (v := .ty "str") (by rfl) T.b_str boot_str rfl) pa_nil))) (pe_one (pe_cmpR op_eq (pv 0) (pv 1) (nomark _)))))))))), ?_⟩
    rcases hE with ⟨i, rfl, rfl⟩ | ⟨z, rfl, rfl⟩ | ⟨z, rfl, rfl⟩ | ⟨a, b, xs, ys, rfl, rfl, h1, h2, h3, h4, h5⟩
    · refine ⟨_, rfl, rfl, _, rfl, ifn (fun e => by cases of_decide_eq_true e) ?_⟩
      refine ⟨_, rfl, _, _, _, _, false, rfl, .ty _, .base (.int _), rfl, _, rfl, ifn (by decide) ?_⟩
      refine ⟨_, rfl, _, _, _, _, false, rfl, .ty _, .base (.int _), rfl, _, rfl, ifn (by decide) ?_⟩
      refine ⟨_, rfl, _, _, _, _, true, rfl, .ty _, .base (.int _), rfl, _, rfl, ifp rfl ?_⟩
      refine ⟨_, rfl, _, _, _, _, true, rfl, .ty _, .base (.int _), rfl, _, rfl, ifp rfl ?_⟩
      refine ⟨_, rfl, _, _, _, _, false, rfl, .ty _, .base (.int _), rfl, _, rfl, _, rfl, ifp rfl ?_⟩
      refine ⟨_, rfl, _, rfl, rfl, ?_⟩
      rw [decide_eq_true rfl]
      exact k _ (Same.refl H)
    · refine ⟨_, rfl, rfl, _, rfl, ifn (fun e => by cases of_decide_eq_true e) ?_⟩
      refine ⟨_, rfl, _, _, _, _, false, rfl, .ty _, .base (.str _), rfl, _, rfl, ifn (by decide) ?_⟩
      refine ⟨_, rfl, _, _, _, _, false, rfl, .ty _, .base (.str _), rfl, _, rfl, ifn (by decide) ?_⟩
      refine ⟨_, rfl, _, _, _, _, false, rfl, .ty _, .base (.str _), rfl, _, rfl, ifn (by decide) ?_⟩
      refine ⟨_, rfl, _, _, _, _, true, rfl, .ty _, .base (.str _), rfl, _, rfl, ifp rfl ?_⟩
      refine ⟨_, rfl, _, rfl, rfl, ?_⟩
      rw [decide_eq_true rfl]
      exact k _ (Same.refl H)
    · refine ⟨_, rfl, rfl, _, rfl, ifn (fun e => by cases of_decide_eq_true e) ?_⟩
      refine ⟨_, rfl, _, _, _, _, false, rfl, .ty _, .base (.bl _), rfl, _, rfl, ifn (by decide) ?_⟩
      refine ⟨_, rfl, _, _, _, _, true, rfl, .ty _, .base (.bl _), rfl, _, rfl, ifp rfl ?_⟩
      refine ⟨_, rfl, _, _, _, _, true, rfl, .ty _, .base (.bl _), rfl, _, rfl, ifp rfl ?_⟩
      refine ⟨_, rfl, _, rfl, rfl, ?_⟩
      rw [decide_eq_true rfl]
      exact k _ (Same.refl H)
    · refine ⟨_, rfl, rfl, _, rfl, ifn (fun e => by cases of_decide_eq_true e) ?_⟩
      refine ⟨_, rfl, _, _, _, _, true, rfl, .ty _, .base (.tup h2), rfl, _, rfl, ifp rfl ?_⟩
      refine ⟨_, rfl, _, _, _, _, true, rfl, .ty _, .base (.tup h1), rfl, _, rfl, ifn (by decide) ?_⟩
      refine ⟨_, rfl, a, _, rfl, .inr (SqT.of h1), _, rfl, b, _, rfl, .inr (SqT.of h2), rfl, _, rfl, ifn (by simp [h3]) ?_⟩
      refine ⟨_, rfl, b, _, rfl, .inr (SqT.of h2), _, rfl, by omega, by omega, for_range (n := (((ys.length : Nat) : Int)).toNat) (fun i σ H' => ∃ x : Option V, σ = [some (.ref a), some (.ref b), x] ∧ Same H H') ⟨none, rfl, Same.refl H⟩ ?_ ?_⟩
      · rintro i σ H1 hi ⟨x, rfl, s1⟩
        have hil : i < ys.length := by rw [Int.toNat_natCast] at hi; exact hi
        have hix : i < xs.length := by omega
        refine ⟨_, rfl, _, rfl, a, _, _, _, rfl, rfl, SqT.of (s1 _ _ h1), at_ofG (j := i) (by omega) (List.getElem?_eq_getElem hix), _, rfl, _, rfl, b, _, _, _, rfl, rfl, SqT.of (s1 _ _ h2), at_ofG (j := i) (by omega) (List.getElem?_eq_getElem hil), _, _, rfl, (h5 i _ _ (List.getElem?_eq_getElem hix) (List.getElem?_eq_getElem hil)).same s1, fun H2 s2 => ?_⟩
        exact ⟨_, rfl, ifn (by decide) ⟨_, rfl, s1.trans s2⟩⟩
      · rintro σ H1 ⟨x, rfl, s1⟩
        exact k _ s1
theorem ok_sizes6 (D : Def0 K mg "_law_sizes" s_law_sizes) : DefOk P w K mg base CX0 1 "_law_sizes" spSizes := by
  refine D.ok sc_law_sizes (fun vs H Q E h => by obtain ⟨kd, ts, rows, rfl, _⟩ := h; rfl) (fun _ _ _ _ _ _ us hl => match us, hl with | [_], _ => rfl) (fun f cdv A outer s H vs Q E hr h => ?_)
  obtain ⟨kd, ts, rows, rfl, hk, hT, R, key⟩ := h
  have hu := hu_of hr
  have r4 := R.len
  refine ⟨_, (pss_cons (ps_set (i := 1) sc_law_sizes.nd rfl (Or.inl rfl) pe_dnewK)
    (pss_cons (ps_for PassesOwn.never rfl (pi_tup (pv 0)) (pg_tup (by rfl) (pgs_cons (pg_name (i := 2) sc_law_sizes.nd rfl (Or.inl rfl)) (pgs_cons (pg_name (i := 3) sc_law_sizes.nd rfl (Or.inl rfl)) pgs_nil)))
      (pss_one (ps_dput hu (pv 1) (pv 2) (pv 3) rfl)))
    (pss_one (ps_ret (pv 1))))), ?_⟩
  refine fun d hd => ?_
  have s1 := (Same.refl H).upd_new (o := .dK []) hd
  have d1 : (upd H d (.dK [])) d = some (.dK (wL (rows.take 0))) := upd_same
  generalize upd H d (.dK []) = H1 at s1 d1
  have lts : (ts.map V.ref).length = rows.length := by rw [List.length_map, hT.1]
  refine ⟨_, rfl, kd, rfl, ⟨_, SqT.of (s1 _ _ hk)⟩, for_tup (xs := ts.map V.ref) (fun i σ H' => ∃ (x2 x3 : Option V), σ = [some (.ref kd), some (.ref d), x2, x3] ∧ Same H H' ∧ H' d = some (.dK (wL (rows.take i)))) ⟨none, none, rfl, s1, d1⟩ (fun i σ H' _ ⟨_, _, _, q, _⟩ => SqT.of (q _ _ hk)) ?_ ?_⟩
  · rintro i v σ H2 hv ⟨x2, x3, rfl, s2, d2⟩
    obtain ⟨u, hu2, rfl⟩ := get_map_r hv
    have hil : i < rows.length := by rw [← hT.1]; exact (List.getElem?_eq_some_iff.mp hu2).1
    have hq := List.getElem?_eq_getElem hil
    have hut := s2 _ _ (hT.2 i u _ hu2 hq)
    have ew := wL_snoc R.nd hq
    generalize rows[i] = q at hut ew
    refine ⟨u, _, rfl, SqT.of hut, rfl, _, _, rfl, _, _, rfl, rfl, ?_⟩
    refine ⟨_, rfl, _, rfl, _, rfl, d, _, rfl, DPut.k (k := .inr q.1) d2 ?_, ?_⟩
    · unfold wL
      rw [List.length_map, List.length_take]
      exact lt_line (n := min i _) (by omega)
    · exact ⟨_, _, rfl, s2.upd_own hd, by rw [upd_same, ew]⟩
  · rintro σ H2 ⟨x2, x3, rfl, s2, d2⟩
    rw [lts, List.take_length] at d2
    exact ⟨_, rfl, key H2 d s2 d2⟩
end
end Sh
end
section
set_option Elab.async false
set_option linter.all false
set_option maxRecDepth 100000
set_option maxHeartbeats 16000000
namespace Sh
open PySem PySem.Spec PyProof.Rows L2 NdefX LamX
open C8 (pss_cut tCut)
open Evl (ixN_nat)
def blkB (D : RdD) (q : Row) : List REnt := (wq D.many q).map fun ss => (q.1, ss, D.stp q.1 ss)
theorem ent_blk {D : RdD} {rows : List Row} (R : ROk 4 rows) (h : D.Ok rows) : D.ent = rows.flatMap (blkB D) := by
  have e1 : D.ent = D.ent.map fun e => (e.1, e.2.1, D.stp e.1 e.2.1) := by
    conv => lhs; rw [← List.map_id D.ent]
    refine List.map_congr_left fun e he => ?_
    rw [h.stp_ent R he]
    rfl
  have e2 : (D.ent.map fun e => (e.1, e.2.1, D.stp e.1 e.2.1)) = (D.ent.map ek).map fun k => (k.1, k.2, D.stp k.1 k.2) := by
    rw [List.map_map]
    rfl
  rw [e1, e2, h.ks]
  unfold ksOf blkB
  rw [List.map_flatMap]
  congr 1
  funext q
  rw [List.map_map]
  rfl
theorem blk_len {D : RdD} {q : Row} (h : D.many ≤ 40) (hq : q.2.toNat ≤ 3) : (blkB D q).length ≤ 64000 := by
  unfold blkB wq
  rw [List.length_map, ways_pow]
  calc D.many ^ q.2.toNat ≤ 40 ^ q.2.toNat := Nat.pow_le_pow_left h _
    _ ≤ 40 ^ 3 := Nat.pow_le_pow_right (by decide) hq
theorem flat_snoc {α β : Type} {f : α → List β} {l : List α} {i : Nat} {x : α} (h : l[i]? = some x) : (l.take (i + 1)).flatMap f = (l.take i).flatMap f ++ f x := by
  rw [take_snoc' h, List.flatMap_append, List.flatMap_cons, List.flatMap_nil, List.append_nil]
theorem flat_64 {D : RdD} (h : D.many ≤ 40) : ∀ {l : List Row}, (∀ q ∈ l, q.2.toNat ≤ 3) → (l.flatMap (blkB D)).length ≤ l.length * 64000
  | [], _ => by simp
  | q :: l, hq => by
    rw [List.flatMap_cons, List.length_append, List.length_cons, Nat.succ_mul]
    have h1 := blk_len (D := D) h (hq q List.mem_cons_self)
    have h2 := flat_64 h fun q' h' => hq q' (List.mem_cons_of_mem _ h')
    omega
def spTable (C CR : Addr) : Sp := fun vs H Q _ => ∃ (u b : Addr) (rows : List Row) (D : RdD), vs = [.ref u] ∧ RdAt C CR H u b rows D ∧ ROk 4 rows ∧ D.Ok rows ∧ ∀ H' t us, Same H H' → H' t = some (.tup (us.map V.ref)) → RwAt H' us D.ent → Q (.ref t) H'
def TablOk (P : Program) (w : World) (K : PySem.W.Frag) (mg : Str → Option Value) (base : Heap) (C CR : Addr) : Prop := ∃ f, Meth K CR "table" f ∧ FnR P w K mg base CX0 3 f (spTable C CR)
theorem lk_table (b d m : Addr) (n o : Nat) : (rdF b n d m o).lookup ("table" : Str) = none := by
  have h1 : (("table" : Str) == "bed") = false := by decide +kernel
  have h2 : (("table" : Str) == "states") = false := by decide +kernel
  have h3 : (("table" : Str) == "cells") = false := by decide +kernel
  have h4 : (("table" : Str) == "marks") = false := by decide +kernel
  have h5 : (("table" : Str) == "otherwise") = false := by decide +kernel
  simp [rdF, List.lookup, h1, h2, h3, h4, h5]
abbrev N_Reader_table : List Str := ["self", "states", "found", "kind", "many", "by_below", "below"]
theorem sc_Reader_table : FnScope N_Reader_table ["self"] (defScope s_Reader_table) := ⟨rfl, rfl, rfl, by decide +kernel, rfl, by decide +kernel, by decide +kernel⟩
section
variable {P : Program} {w : World} {K : PySem.W.Frag} {mg : Str → Option Value} {base : Heap} {C CR : Addr}
theorem body_table (T : Bl mg) (BB : BedT K C) (BR : RdT K CR) (c_all_rows : DefOk P w K mg base CX0 2 "all_rows" spAllRows6) {f0 : Addr} {cdv : Value} {A' : Around} {outer : List Env} {s' : Shared} {H : Hp} {vs : List V} {Q : VK} {E : XK} (hr : Room 2 (A'.deeper (envOfC "Reader.table" (defScope s_Reader_table) s'.heap.objs.size f0 cdv))) (h : spTable C CR vs H Q E) :
    ∃ t, PSs (cxOf CX0 P w K mg base N_Reader_table "Reader.table" (defScope s_Reader_table) f0 cdv A' outer s' H E).nox (defBody s_Reader_table) t ∧ t { nx := fun _ H' => Q .non H', rt := Q } (start N_Reader_table vs) H := by
  obtain ⟨u, b, rows, D, rfl, hRd, R, hD, key⟩ := h
  have hu := hu_of hr
  have r4 := R.len
  have m40 := hD.m3
  refine ⟨_, (pss_cons (ps_set (i := 1) sc_Reader_table.nd rfl (Or.inl rfl) (pe_listRg rfl (by rfl) T.b_list (prg_1 (by rfl) T.b_range (pe_fld (pv 0) rfl))))
    (pss_cons (ps_set (i := 2) sc_Reader_table.nd rfl (Or.inl rfl) (pe_lst pa_nil))
    (pss_cons (ps_for PassesOwn.never rfl (pi_tup (pe_fld (pe_fld (pv 0) rfl) rfl)) (pg_tup (by rfl) (pgs_cons (pg_name (i := 3) sc_Reader_table.nd rfl (Or.inr rfl)) (pgs_cons (pg_name (i := 4) sc_Reader_table.nd rfl (Or.inl rfl)) pgs_nil)))
      (pss_cons (ps_set (i := 5) sc_Reader_table.nd rfl (Or.inr rfl) (pe_dget hu (pe_fld (pv 0) rfl) (pv 3) (fun _ _ => rfl)))
      (pss_one (ps_expr (pe_bm PySem.F.plainAttrs_list PySem.F.slot_list_extend PySem.F.type_list_extend mt_extend (pv 2) (pa_cons (pe_lc (own := [("below", 6)]) (g := (gName 6)) (tt := tYes) rfl sc_Reader_table.nd (pi_list (pe_d c_all_rows (hr.mono (by decide)) pass0 (pa_cons (pv 1) (pa_cons (pv 4) pa_nil)))) (blkOk_by (N := N_Reader_table) (sc := defScope s_Reader_table) (by decide +kernel)) (fun _ _ _ _ _ => (pg_name (i := 6) sc_Reader_table.nd rfl (Or.inl rfl))) (fun _ _ _ _ _ => pts_nil) (fun _ _ _ _ _ => (pe_tup (pa_cons (pv 3) (pa_cons (pv 6) (pa_cons (pe_dget2 hu (pv 5) (pv 6) (show PE _ _ (tFld K _ _) from pe_fld (pv 0) rfl) ⟨rfl, rfl, rfl, rfl⟩) pa_nil)))))) pa_nil))))))
    (pss_one (ps_ret (pe_callTy call_tuple_of (by rfl) T.b_tuple (by decide +kernel) (pa_cons (pv 2) pa_nil))))))), ?_⟩
  obtain ⟨rx, rd, rm, rds, hr1, ⟨bx, r0, kk, ww, rk, ts, b1, b2, b3, b4, b5, b6⟩, hr3, hr4⟩ := hRd
  obtain ⟨f1, f2, f3, f4, f5⟩ := rd_lk b rd rm D.many D.rest
  refine ⟨_, rfl, u, CR, rx, _, _, rfl, hr1, BR.cl, BR.nS, f5, _, rfl, .of_le (by decide) (by omega) (by decide) (by omega), fun L1 hL1 => ?_⟩
  rw [rgV_nI]
  have s1 := (Same.refl H).upd_new (o := .lst (nI (List.range D.many))) hL1
  have e1 : (upd H L1 (.lst (nI (List.range D.many)))) L1 = some (.lst (nI (List.range D.many))) := upd_same
  generalize upd H L1 (.lst (nI (List.range D.many))) = H1 at s1 e1
  refine ⟨le_line (show 0 ≤ 10000000 by decide), fun F hF => ?_⟩
  have s2 := s1.upd_new (o := .lst []) hF
  have hF0 := s1.free hF
  have n1F : L1 ≠ F := ne_of_none e1 hF
  have e2 : (upd H1 F (.lst [])) L1 = some (.lst (nI (List.range D.many))) := by rw [upd_ne n1F]; exact e1
  have F2 : (upd H1 F (.lst [])) F = some (.lst (([] : List Addr).map V.ref)) := upd_same
  generalize upd H1 F (.lst []) = H2 at s2 e2 F2
  have lts : (ts.map V.ref).length = rows.length := by rw [List.length_map, b3.1]
  refine ⟨_, rfl, u, CR, rx, _, _, rfl, s2 _ _ hr1, BR.cl, BR.nB, f4, b, C, bx, _, _, rfl, s2 _ _ b1, BB.cl, BB.nR, lk_rows _ _ _ _, r0, rfl, ⟨_, SqT.of (s2 _ _ b2)⟩, for_tup (xs := ts.map V.ref) (fun i σ H' => ∃ (x3 x4 x5 x6 : Option V) (ws : List Addr), σ = [some (.ref u), some (.ref L1), some (.ref F), x3, x4, x5, x6] ∧ Same H H' ∧ H' L1 = some (.lst (nI (List.range D.many))) ∧ H' F = some (.lst (ws.map V.ref)) ∧ RwAt H' ws ((rows.take i).flatMap (blkB D)))
    ⟨none, none, none, none, [], rfl, s2, e2, F2, .nil⟩ (fun i σ H' _ ⟨_, _, _, _, _, _, q, _⟩ => SqT.of (q _ _ b2)) ?_ ?_⟩
  · rintro i v σ H3 hv ⟨x3, x4, x5, x6, ws, rfl, s3, e3, F3, W3⟩
    obtain ⟨t, ht, rfl⟩ := get_map_r hv
    have hil : i < rows.length := by rw [← b3.1]; exact (List.getElem?_eq_some_iff.mp ht).1
    have hq := List.getElem?_eq_getElem hil
    have hqm := List.getElem_mem hil
    have htt := s3 _ _ (b3.2 i t _ ht hq)
    have ef := flat_snoc (f := blkB D) hq
    have hkn : (rows.map (·.1))[i]? = some rows[i].1 := by rw [List.getElem?_map, hq]; rfl
    generalize rows[i] = q at hq hqm htt ef hkn
    have hwd := R.wd q hqm
    have eq2 : q.2 = ((q.2.toNat : Nat) : Int) := by omega
    have hw3 : q.2.toNat ≤ 3 := by rw [← wR_of R hqm]; exact wR_le R _
    have hda := List.getElem?_eq_getElem (show i < rds.length by rw [hr3.len, List.length_map]; exact hil)
    generalize rds[i]'(by rw [hr3.len, List.length_map]; exact hil) = a at hda
    have ha := hr3.row i q.1 a hkn hda
    have gC : DGet H3 rd (.str q.1) (some (.ref a)) := by
      have := DGet.k (k := .inr q.1) (s3 _ _ hr3.at_)
      rw [tn_val R.nd hkn hda] at this
      exact this
    refine ⟨t, _, rfl, SqT.of htt, rfl, _, _, rfl, _, _, rfl, rfl, ?_⟩
    refine ⟨_, rfl, u, CR, rx, _, _, rfl, s3 _ _ hr1, BR.cl, BR.nC, f1, _, rfl, rd, _, rfl, gC, ?_⟩
    refine ⟨_, rfl, .inl ⟨rfl, _, SqL.of F3⟩, _, rfl, _, rfl, L1, List.range D.many, q.2.toNat, by show [V.ref L1, V.int q.2] = _; rw [← eq2], e3, hw3, by rw [List.length_range]; omega, fun H4 Lw s4 nLw WW => ?_⟩
    obtain ⟨vs', hLw, PW⟩ := WW
    have PW : PlAt nI H4 vs' (wq D.many q) := PW
    have s04 := s3.trans s4
    refine ⟨Lw, rfl, ⟨_, SqL.of hLw⟩, fun E hE => lc_it (walk_list (xs := vs'.map V.ref)) (fun k H' => Same H4 H' ∧ ∃ ds : List Addr, H' E = some (.lst (ds.map V.ref)) ∧ RwAt H' ds ((blkB D q).take k)) ⟨(Same.refl H4).upd_new hE, [], upd_same, .nil⟩ (fun k H' _ ⟨q, _⟩ => SqL.of (q _ _ hLw)) ?_ ?_⟩
    · rintro k v H5 H6 hk ⟨s5, es, E5, W5⟩ ⟨rfl, hv⟩
      obtain ⟨y, hy, rfl⟩ := get_map_r hv
      have hkl : k < (wq D.many q).length := by rw [← PW.1]; exact (List.getElem?_eq_some_iff.mp hy).1
      have hss := List.getElem?_eq_getElem hkl
      have hbk : (blkB D q)[k]? = some (q.1, (wq D.many q)[k], D.stp q.1 (wq D.many q)[k]) := by
        unfold blkB
        rw [List.getElem?_map, hss]
        rfl
      generalize (wq D.many q)[k] = ss at hss hbk
      have hyt := s5 _ _ (PW.2 k y ss hy hss)
      have ha5 := s5 _ _ (s04 _ _ ha)
      have gS : ∃ o, DGet H6 a (.ref y) o ∧ o.getD (.int ((D.rest : Nat) : Int)) = .int ((D.stp q.1 ss : Nat) : Int) := by
        refine ⟨_, DGet.t (k := tkey ss) ha5 (by rw [hyt, tkey_V]), ?_⟩
        rw [cz_val]
        unfold RdD.stp
        cases D.rws.find? (fun e => decide (ek e = (q.1, ss))) with
        | none => rfl
        | some e => rfl
      obtain ⟨o, gS, eo⟩ := gS
      refine ⟨rfl, _, rfl, _, rfl, _, rfl, a, rfl, .inr ⟨_, .of ha5⟩, _, rfl, _, rfl, u, CR, rx, _, _, rfl, s5 _ _ (s04 _ _ hr1), BR.cl, BR.nO, f2, o, gS, le_line (show 3 ≤ 10000000 by decide), fun p hp => ?_⟩
      rw [eo]
      have s7 := (Same.refl H6).upd_new (o := .tup [.str q.1, .ref y, .int ((D.stp q.1 ss : Nat) : Int)]) hp
      have p7 : (upd H6 p (.tup [.str q.1, .ref y, .int ((D.stp q.1 ss : Nat) : Int)])) p = some (.tup [.str q.1, .ref y, .int ((D.stp q.1 ss : Nat) : Int)]) := upd_same
      generalize upd H6 p (.tup [.str q.1, .ref y, .int ((D.stp q.1 ss : Nat) : Int)]) = H7 at s7 p7
      have E7 := s7 _ _ E5
      refine ⟨_, E7, ?_, (s5.trans s7).upd_own hE, es ++ [p], by rw [upd_same, List.map_append]; rfl, ?_⟩
      · rw [List.length_map, W5.1, List.length_take]
        have := blk_len (D := D) (q := q) m40 hw3
        exact lt_line (n := min k _) (by omega)
      · rw [take_snoc' hbk]
        exact ((W5.keep fun t ys h => s7 _ _ h).snoc (e := (q.1, ss, D.stp q.1 ss)) p7 (s7 _ _ hyt)).keep fun t ys h => by rw [upd_ne (ne_of h E7 (fun e => nomatch e))]; exact h
    rintro H5 ⟨s5, es, E5, W5⟩
    rw [List.length_map, PW.1, show (wq D.many q).length = (blkB D q).length by unfold blkB; rw [List.length_map], List.take_length] at W5
    have F5 := s5 _ _ (s4 _ _ F3)
    have s05 := s04.trans s5
    refine ⟨F, E, _, _, rfl, rfl, F5, E5, ?_, ?_⟩
    · rw [List.length_map, List.length_map, W3.1, W5.1]
      have h1 := blk_len (D := D) (q := q) m40 hw3
      have h2 := flat_64 (D := D) m40 (l := rows.take i) fun q' hq' => by
        have := List.mem_of_mem_take hq'
        rw [← wR_of R this]
        exact wR_le R _
      have h3 : (rows.take i).length ≤ 4 := by rw [List.length_take]; omega
      have : (rows.take i).length * 64000 ≤ 4 * 64000 := Nat.mul_le_mul_right _ h3
      exact le_line (by omega)
    · have kt : ∀ t ys, H5 t = some (.tup ys) → (upd H5 F (.lst (ws.map V.ref ++ es.map V.ref))) t = some (.tup ys) := fun t ys h => by rw [upd_ne (ne_of h F5 (fun e => nomatch e))]; exact h
      refine ⟨_, _, _, _, ws ++ es, rfl, s05.upd_own hF0, by rw [upd_ne n1F]; exact s5 _ _ (s4 _ _ e3), by rw [upd_same, List.map_append], ?_⟩
      rw [ef]
      exact ((W3.keep fun t ys h => s5 _ _ (s4 _ _ h)).app W5).keep kt
  · rintro σ H3 ⟨x3, x4, x5, x6, ws, rfl, s3, e3, F3, W3⟩
    rw [lts, List.take_length, ← ent_blk R hD] at W3
    refine ⟨_, rfl, F, _, rfl, .inl ⟨SqL.of F3, fun t ht => ?_⟩⟩
    have s4 := (Same.refl H3).upd_new (o := .tup (ws.map V.ref)) ht
    exact key _ t ws (s3.trans s4) upd_same (W3.keep fun t ys h => s4 _ _ h)
theorem ok_table (T : Bl mg) (BB : BedT K C) (BR : RdT K CR) (c_all_rows : DefOk P w K mg base CX0 2 "all_rows" spAllRows6) {f : Addr} {fd : FuncData} (F : FunD K "table" "Reader.table" (defArgs s_Reader_table) (defBody s_Reader_table) (defScope s_Reader_table) [] [] f fd) (M : Meth K CR "table" f) : TablOk P w K mg base C CR := by
  have G : FnOk P w K mg base CX0 3 f fd ["self"] (spTable C CR) := F.ok sc_Reader_table (fun vs H Q E h => by obtain ⟨u, b, rows, D, rfl, _⟩ := h; rfl) fun cdv A outer s H vs Q E hr h => by
    obtain ⟨t, a, b⟩ := body_table T BB BR c_all_rows hr h
    exact ⟨t, a.nox, b⟩
  refine ⟨f, M, fun A' outer s H us vs Q E hr e0 r hs => G.raw (F.bindsN fun _ _ _ _ _ _ us hl => match us, hl with | [_], _ => rfl) .nil A' outer s H us vs Q E hr e0 r (by show spTable C CR (vs ++ []) H Q E; rw [List.append_nil]; exact hs)⟩
end
end Sh
end
section
set_option Elab.async false
set_option linter.all false
set_option maxRecDepth 100000
set_option maxHeartbeats 16000000
namespace Sh
open PySem PySem.Spec PyProof.Rows L2 NdefX LamX
open C8 (pss_cut tCut)
open Evl (ixN_nat)
theorem sam_nums {H : Hp} {a b : Addr} {l : List Nat} {n : Nat} (h1 : H a = some (.tup (nI l))) (h2 : H b = some (.tup (nI l))) (hl : l.length ≤ 10000000) : Sam6 (n + 2) H (.ref a) (.ref b) := by
  refine .inr (.inr (.inr ⟨a, b, _, _, rfl, rfl, h1, h2, rfl, by rw [nI_len]; exact hl, fun i x y hx hy => ?_⟩))
  rw [hx] at hy
  cases hy
  have hil : i < l.length := by have := (List.getElem?_eq_some_iff.mp hx).1; rw [nI_len] at this; exact this
  rw [nI_at (List.getElem?_eq_getElem hil)] at hx
  cases hx
  exact .inl ⟨_, rfl, rfl⟩
theorem sam_rows {H : Hp} {r r' : Addr} {ts ts' : List Addr} {rows : List Row} {n : Nat} (h1 : H r = some (.tup (ts.map V.ref))) (h2 : H r' = some (.tup (ts'.map V.ref))) (t1 : TupsAt H ts rows) (t2 : TupsAt H ts' rows) (l : rows.length ≤ 1000) : Sam6 (n + 3) H (.ref r) (.ref r') := by
  refine .inr (.inr (.inr ⟨r, r', _, _, rfl, rfl, h1, h2, by rw [List.length_map, List.length_map, t1.1, t2.1], by rw [List.length_map, t1.1]; omega, fun i x y hx hy => ?_⟩))
  obtain ⟨u, hu, rfl⟩ := get_map_r hx
  obtain ⟨u', hu', rfl⟩ := get_map_r hy
  have hil : i < rows.length := by rw [← t1.1]; exact (List.getElem?_eq_some_iff.mp hu).1
  have hq := List.getElem?_eq_getElem hil
  refine .inr (.inr (.inr ⟨u, u', _, _, rfl, rfl, t1.2 i u _ hu hq, t2.2 i u' _ hu' hq, rfl, by show 2 ≤ 10000000; decide, fun j x y hx hy => ?_⟩))
  rw [hx] at hy
  cases hy
  match j, hx with
  | 0, hx => cases hx; exact .inr (.inl ⟨_, rfl, rfl⟩)
  | 1, hx => cases hx; exact .inl ⟨_, rfl, rfl⟩
theorem sam_ents {H : Hp} {r r' : Addr} {us us' : List Addr} {es : List REnt} {n : Nat} (h1 : H r = some (.tup (us.map V.ref))) (h2 : H r' = some (.tup (us'.map V.ref))) (t1 : RwAt H us es) (t2 : RwAt H us' es) (l : es.length ≤ 10000000) (l3 : ∀ e ∈ es, e.2.1.length ≤ 10) : Sam6 (n + 4) H (.ref r) (.ref r') := by
  refine .inr (.inr (.inr ⟨r, r', _, _, rfl, rfl, h1, h2, by rw [List.length_map, List.length_map, t1.1, t2.1], by rw [List.length_map, t1.1]; omega, fun i x y hx hy => ?_⟩))
  obtain ⟨u, hu, rfl⟩ := get_map_r hx
  obtain ⟨u', hu', rfl⟩ := get_map_r hy
  have hil : i < es.length := by rw [← t1.1]; exact (List.getElem?_eq_some_iff.mp hu).1
  have hq := List.getElem?_eq_getElem hil
  have hm := l3 _ (List.getElem_mem hil)
  obtain ⟨b1, p1, p2⟩ := t1.2 i u _ hu hq
  obtain ⟨b2, r1, r2⟩ := t2.2 i u' _ hu' hq
  refine .inr (.inr (.inr ⟨u, u', _, _, rfl, rfl, p1, r1, rfl, by show 3 ≤ 10000000; decide, fun j x y hx hy => ?_⟩))
  match j, hx, hy with
  | 0, hx, hy => cases hx; cases hy; exact .inr (.inl ⟨_, rfl, rfl⟩)
  | 1, hx, hy => cases hx; cases hy; exact sam_nums p2 r2 (by omega)
  | 2, hx, hy => cases hx; cases hy; exact .inl ⟨_, rfl, rfl⟩
def spKept (P : Program) (w : World) (C CR : Addr) : Sp := fun vs H Q _ => ∃ (kd a u b : Addr) (ts : List Addr) (rows : List Row) (D : RdD) (ex : List V), vs = [.ref kd, .ref a, .ref u] ∧ H kd = some (.tup (ts.map V.ref)) ∧ TupsAt H ts rows ∧ ROk 4 rows ∧ D.Ok rows ∧ LrA P w H a D ex ∧ RdAt C CR H u b rows D ∧ (∀ q ∈ rows, ∀ i, i < q.2.toNat → D.many ^ i ≤ 4000) ∧ ∀ H', Same H H' → Q (.bl true) H'
abbrev N_law_kept : List Str := ["kinds", "drawn", "reader", "due", "name", "size", "below"]
theorem sc_law_kept : FnScope N_law_kept ["kinds", "drawn", "reader"] (defScope s_law_kept) := ⟨rfl, rfl, rfl, by decide +kernel, rfl, by decide +kernel, by decide +kernel⟩
section
variable {P : Program} {w : World} {K : PySem.W.Frag} {mg : Str → Option Value} {base : Heap} {C CR : Addr}
theorem ok_kept6 (T : Bl mg) (BB : BedT K C) (BR : RdT K CR) (c_law_tuples : DefOk P w K mg base CX0 1 "_law_tuples" spTuples6) (c_law_same : DefOk P w K mg base CX0 4 "_law_same" (spSam6 4)) (c_table : TablOk P w K mg base C CR) (D : Def0 K mg "_law_kept" s_law_kept) : DefOk P w K mg base CX0 5 "_law_kept" (spKept P w C CR) := by
  refine D.ok sc_law_kept (fun vs H Q E h => by obtain ⟨kd, a, u, b, ts, rows, D, ex, rfl, _⟩ := h; rfl) (fun _ _ _ _ _ _ us hl => match us, hl with | [_, _, _], _ => rfl) (fun f cdv A outer s0 H vs Q E hr h => ?_)
  obtain ⟨kd, a, u, b, ts, rows, D, ex, rfl, hk, hT, R, hD, hA, hRd, hpow, key⟩ := h
  have hu := hu_of hr
  have hu2 := hr.units
  have hu2 : (A.deeper (envOfC "_law_kept" (defScope s_law_kept) s0.heap.objs.size f cdv)).units + 2 < cLine := by omega
  obtain ⟨fT, M_table, F_table⟩ := c_table
  have r4 := R.len
  have m40 := hD.m3
  refine ⟨_, (pss_cons (ps_set (i := 3) sc_law_kept.nd rfl (Or.inl rfl) (pe_lst pa_nil))
      (pss_cons (ps_for PassesOwn.never rfl (pi_tup (pv 0)) (pg_tup (by rfl) (pgs_cons (pg_name (i := 4) sc_law_kept.nd rfl (Or.inr rfl)) (pgs_cons (pg_name (i := 5) sc_law_kept.nd rfl (Or.inl rfl)) pgs_nil)))
        (pss_one (ps_expr (pe_bm PySem.F.plainAttrs_list PySem.F.slot_list_extend PySem.F.type_list_extend mt_extend (pv 3) (pa_cons (pe_lc (own := [("below", 6)]) (g := (gName 6)) (tt := tYes) rfl sc_law_kept.nd (pi_list (pe_d c_law_tuples (hr.mono (by decide)) pass0 (pa_cons (pe_ix ix_list (pv 1) pe_int (fun _ _ => rfl)) (pa_cons (pv 5) pa_nil)))) (blkOk_by (N := N_law_kept) (sc := defScope s_law_kept) (by decide +kernel)) (fun _ _ _ _ _ => (pg_name (i := 6) sc_law_kept.nd rfl (Or.inl rfl))) (fun _ _ _ _ _ => pts_nil) (fun _ _ _ _ _ => (pe_tup (pa_cons (pv 4) (pa_cons (pv 6) (pa_cons (show PE _ _ (tNGet P w _ _) from pe_nget hu2 (pe_ix (show IxR _ (rIxL K) from ix_list) (pv 1) pe_int (fun _ _ => rfl)) (pe_tup (pa_cons (pv 4) (pa_cons (pv 6) pa_nil))) (fun _ _ => rfl)) pa_nil)))))) pa_nil)))))
      (pss_cons (ps_if (PW.pt (pw_or (pt_not (pt_val (pe_d c_law_same (hr.mono (by decide)) pass0 (pa_cons (pe_fld (pe_fld (pv 2) rfl) rfl) (pa_cons (pv 0) pa_nil))))) (pw_or1 (pt_not (pt_val (pe_d c_law_same (hr.mono (by decide)) pass0 (pa_cons (pe_fld (pv 2) rfl) (pa_cons (pe_ix ix_list (pv 1) pe_int (fun _ _ => rfl)) pa_nil))))))))
        (pss_one (ps_ret pe_bl))
        pss_nil)
      (pss_one (ps_ret (pe_and (pe_d c_law_same (hr.mono (by decide)) pass0 (pa_cons (pe_fld (pv 2) rfl) (pa_cons (pe_ix ix_list (pv 1) pe_int (fun _ _ => rfl)) pa_nil))) (pe_one (pe_d c_law_same (hr.mono (by decide)) pass0 (pa_cons (pe_methR0 (pv 2) BR.cl M_table F_table (hr.mono (by decide)) pass0) (pa_cons (pe_callTy call_tuple_of (by rfl) T.b_tuple (by decide +kernel) (pa_cons (pv 3) pa_nil)) pa_nil)))))))))), ?_⟩
  obtain ⟨tR, tM, tS, vR, a1, a2, a3, a4, a5⟩ := id hA
  have aat : ∀ (j : Nat) (v : V), ([.int ((D.many : Nat) : Int), .ref tR, .int ((D.rest : Nat) : Int), .ref tM, .ref tS] : List V)[j]? = some v → ([.int ((D.many : Nat) : Int), .ref tR, .int ((D.rest : Nat) : Int), .ref tM, .ref tS] ++ ex : List V)[j]? = some v := fun j v h => by
    rw [List.getElem?_append_left (List.getElem?_eq_some_iff.mp h).1]
    exact h
  refine ⟨le_line (show 0 ≤ 10000000 by decide), fun F hF => ?_⟩
  have s1 := (Same.refl H).upd_new (o := .lst []) hF
  have F1 : (upd H F (.lst [])) F = some (.lst (([] : List Addr).map V.ref)) := upd_same
  generalize upd H F (.lst []) = H1 at s1 F1
  have lts : (ts.map V.ref).length = rows.length := by rw [List.length_map, hT.1]
  refine ⟨_, rfl, kd, rfl, ⟨_, SqT.of (s1 _ _ hk)⟩, for_tup (xs := ts.map V.ref) (fun i σ H' => ∃ (x4 x5 x6 : Option V) (ws : List Addr), σ = [some (.ref kd), some (.ref a), some (.ref u), some (.ref F), x4, x5, x6] ∧ Same H H' ∧ H' F = some (.lst (ws.map V.ref)) ∧ RwAt H' ws ((rows.take i).flatMap (blkB D)))
    ⟨none, none, none, [], rfl, s1, F1, .nil⟩ (fun i σ H' _ ⟨_, _, _, _, _, q, _⟩ => SqT.of (q _ _ hk)) ?_ ?_⟩
  · rintro i v σ H3 hv ⟨x4, x5, x6, ws, rfl, s3, F3, W3⟩
    obtain ⟨t, ht, rfl⟩ := get_map_r hv
    have hil : i < rows.length := by rw [← hT.1]; exact (List.getElem?_eq_some_iff.mp ht).1
    have hq := List.getElem?_eq_getElem hil
    have hqm := List.getElem_mem hil
    have htt := s3 _ _ (hT.2 i t _ ht hq)
    have ef := flat_snoc (f := blkB D) hq
    generalize rows[i] = q at hq hqm htt ef
    have hwd := R.wd q hqm
    have eq2 : q.2 = ((q.2.toNat : Nat) : Int) := by omega
    have hw3 : q.2.toNat ≤ 3 := by rw [← wR_of R hqm]; exact wR_le R _
    have hzn : HasN rows q.1 := ⟨q, hqm, rfl⟩
    refine ⟨t, _, rfl, SqT.of htt, rfl, _, _, rfl, _, _, rfl, rfl, ?_⟩
    refine ⟨_, rfl, .inl ⟨rfl, _, SqL.of F3⟩, _, rfl, a, _, _, _, rfl, rfl, SqL.of (s3 _ _ a1), at_ofG (j := 0) rfl (aat 0 _ rfl), _, rfl, D.many, q.2.toNat, by show [V.int _, V.int q.2] = _; rw [← eq2], by omega, hw3, hpow q hqm, fun H4 Lw s4 nLw WW => ?_⟩
    obtain ⟨vs', hLw, PW⟩ := WW
    have PW : PlAt nI H4 vs' (wq D.many q) := PW
    have s04 := s3.trans s4
    refine ⟨Lw, rfl, ⟨_, SqL.of hLw⟩, fun E hE => lc_it (walk_list (xs := vs'.map V.ref)) (fun k H' => Same H4 H' ∧ ∃ ds : List Addr, H' E = some (.lst (ds.map V.ref)) ∧ RwAt H' ds ((blkB D q).take k)) ⟨(Same.refl H4).upd_new hE, [], upd_same, .nil⟩ (fun k H' _ ⟨q, _⟩ => SqL.of (q _ _ hLw)) ?_ ?_⟩
    · rintro k v H5 H6 hk ⟨s5, es, E5, W5⟩ ⟨rfl, hv⟩
      obtain ⟨y, hy, rfl⟩ := get_map_r hv
      have hkl : k < (wq D.many q).length := by rw [← PW.1]; exact (List.getElem?_eq_some_iff.mp hy).1
      have hss := List.getElem?_eq_getElem hkl
      have hbk : (blkB D q)[k]? = some (q.1, (wq D.many q)[k], D.stp q.1 (wq D.many q)[k]) := by
        unfold blkB
        rw [List.getElem?_map, hss]
        rfl
      have hsm := List.getElem_mem hkl
      generalize (wq D.many q)[k] = ss at hss hbk hsm
      obtain ⟨q1, q2⟩ := rep_mem.mp (show ss ∈ ways (List.replicate q.2.toNat (List.range D.many)) from hsm)
      have hval := hD.val R hzn (z := q.1) (ss := ss) (by rw [q1, wR_of R hqm]) fun s hs => List.mem_range.mp (q2 s hs)
      have hyt := s5 _ _ (PW.2 k y ss hy hss)
      have a16 := s5 _ _ (s04 _ _ a1)
      refine ⟨rfl, _, rfl, _, rfl, _, rfl, a, _, _, _, rfl, rfl, SqL.of a16, at_ofG (j := 4) rfl (aat 4 _ rfl), _, rfl, _, rfl, le_line (show 2 ≤ 10000000 by decide), fun pk hpk => ?_⟩
      have s6 := (Same.refl H6).upd_new (o := .tup [.str q.1, .ref y]) hpk
      have p6 : (upd H6 pk (.tup [.str q.1, .ref y])) pk = some (.tup [.str q.1, .ref y]) := upd_same
      generalize upd H6 pk (.tup [.str q.1, .ref y]) = H7 at s6 p6
      have nk : NKAt H7 (nkR (q.1, ss)) pk := ⟨y, p6, by
        rw [s6 _ _ hyt]
        show _ = some (HO.tup ((tkey ss).map kV))
        rw [tkey_V]⟩
      refine ⟨tS, pk, _, _, _, rfl, rfl, a5.sm (fun p o h => s6 _ _ (s5 _ _ (s04 _ _ h))), nk, hval, le_line (show 3 ≤ 10000000 by decide), fun p hp => ?_⟩
      have s8 := (Same.refl H7).upd_new (o := .tup [.str q.1, .ref y, .int ((D.stp q.1 ss : Nat) : Int)]) hp
      have p8 : (upd H7 p (.tup [.str q.1, .ref y, .int ((D.stp q.1 ss : Nat) : Int)])) p = some (.tup [.str q.1, .ref y, .int ((D.stp q.1 ss : Nat) : Int)]) := upd_same
      generalize upd H7 p (.tup [.str q.1, .ref y, .int ((D.stp q.1 ss : Nat) : Int)]) = H8 at s8 p8
      have s68 := s6.trans s8
      have E8 := s68 _ _ E5
      refine ⟨_, E8, ?_, (s5.trans s68).upd_own hE, es ++ [p], by rw [upd_same, List.map_append]; rfl, ?_⟩
      · rw [List.length_map, W5.1, List.length_take]
        have := blk_len (D := D) (q := q) m40 hw3
        exact lt_line (n := min k _) (by omega)
      · rw [take_snoc' hbk]
        exact ((W5.keep fun t ys h => s68 _ _ h).snoc (e := (q.1, ss, D.stp q.1 ss)) p8 (s68 _ _ hyt)).keep fun t ys h => by rw [upd_ne (ne_of h E8 (fun e => nomatch e))]; exact h
    rintro H5 ⟨s5, es, E5, W5⟩
    rw [List.length_map, PW.1, show (wq D.many q).length = (blkB D q).length by unfold blkB; rw [List.length_map], List.take_length] at W5
    have F5 := s5 _ _ (s4 _ _ F3)
    have s05 := s04.trans s5
    refine ⟨F, E, _, _, rfl, rfl, F5, E5, ?_, ?_⟩
    · rw [List.length_map, List.length_map, W3.1, W5.1]
      have h1 := blk_len (D := D) (q := q) m40 hw3
      have h2 := flat_64 (D := D) m40 (l := rows.take i) fun q' hq' => by
        have := List.mem_of_mem_take hq'
        rw [← wR_of R this]
        exact wR_le R _
      have h3 : (rows.take i).length ≤ 4 := by rw [List.length_take]; omega
      have : (rows.take i).length * 64000 ≤ 4 * 64000 := Nat.mul_le_mul_right _ h3
      exact le_line (by omega)
    · have kt : ∀ t ys, H5 t = some (.tup ys) → (upd H5 F (.lst (ws.map V.ref ++ es.map V.ref))) t = some (.tup ys) := fun t ys h => by rw [upd_ne (ne_of h F5 (fun e => nomatch e))]; exact h
      refine ⟨_, _, _, ws ++ es, rfl, s05.upd_own hF, by rw [upd_same, List.map_append], ?_⟩
      rw [ef]
      exact ((W3.keep fun t ys h => s5 _ _ (s4 _ _ h)).app W5).keep kt
  · rintro σ H3 ⟨x4, x5, x6, ws, rfl, s3, F3, W3⟩
    rw [lts, List.take_length, ← ent_blk R hD] at W3
    obtain ⟨rx, rd, rm, rds, hr1, ⟨bx, r0, kk, ww, rk, ts0, b1, b2, b3, b4, b5, b6⟩, hr3, hr4⟩ := id hRd
    obtain ⟨f1, f2, f3, f4, f5⟩ := rd_lk b rd rm D.many D.rest
    have hml : D.marks.length ≤ 10000000 := by
      have := sub_len D.marks (List.range D.many) (hD.mks.imp fun h => Nat.ne_of_lt h) fun x hx => List.mem_range.mpr (hD.ml x hx)
      rw [List.length_range] at this
      omega
    have hel : D.ent.length ≤ 10000000 := by
      rw [ent_blk R hD]
      have h2 := flat_64 (D := D) m40 (l := rows) fun q' hq' => by
        rw [← wR_of R hq']
        exact wR_le R _
      have : rows.length * 64000 ≤ 4 * 64000 := Nat.mul_le_mul_right _ (by omega)
      omega
    have he3 : ∀ e ∈ D.ent, e.2.1.length ≤ 10 := fun e he => by
      have hm : ek e ∈ ksOf rows D.many := by rw [← hD.ks]; exact List.mem_map.mpr ⟨e, he, rfl⟩
      obtain ⟨_, hl, _⟩ := (ks_has R).mp hm
      have : e.2.1.length = wR rows e.1 := hl
      have := wR_le R e.1
      omega
    refine ⟨_, rfl, u, CR, rx, _, _, rfl, s3 _ _ hr1, BR.cl, BR.nB, f4, b, C, bx, _, _, rfl, s3 _ _ b1, BB.cl, BB.nR, lk_rows _ _ _ _, _, rfl, .ref r0, .ref kd, rfl, sam_rows (n := 1) (s3 _ _ b2) (s3 _ _ hk) (b3.keep fun _ _ h => s3 _ _ h) (hT.keep fun _ _ h => s3 _ _ h) (by omega), fun H4 s4 => ?_⟩
    have s04 := s3.trans s4
    refine ⟨_, rfl, ifn (by decide) ⟨_, rfl, u, CR, rx, _, _, rfl, s04 _ _ hr1, BR.cl, BR.nS, f5, _, rfl, a, _, _, _, rfl, rfl, SqL.of (s04 _ _ a1), at_ofG (j := 0) rfl (aat 0 _ rfl), _, _, rfl, .inl ⟨_, rfl, rfl⟩, fun H5 s5 => ⟨_, rfl, ifn (by decide) ?_⟩⟩⟩
    have s05 := s04.trans s5
    refine ⟨_, rfl, u, CR, rx, _, _, rfl, s05 _ _ hr1, BR.cl, BR.nM, f3, _, rfl, a, _, _, _, rfl, rfl, SqL.of (s05 _ _ a1), at_ofG (j := 3) rfl (aat 3 _ rfl), _, _, rfl, sam_nums (n := 2) (s05 _ _ hr4) (s05 _ _ a4) hml, fun H6 s6 => ?_⟩
    have s06 := s05.trans s6
    refine ⟨_, rfl, ifp rfl ?_⟩
    refine ⟨_, rfl, u, rx, _, rfl, s06 _ _ hr1, lk_table _ _ _ _ _, u, b, rows, D, rfl, hRd.same s06, R, hD, fun H7 tt us7 s7 ht7 W7 => ?_⟩
    have F7 := s7 _ _ (s6 _ _ (s5 _ _ (s4 _ _ F3)))
    have W37 := W3.keep fun t ys h => s7 _ _ (s6 _ _ (s5 _ _ (s4 _ _ h)))
    refine ⟨_, rfl, F, _, rfl, .inl ⟨SqL.of F7, fun td htd => ?_⟩⟩
    have s8 := (Same.refl H7).upd_new (o := .tup (ws.map V.ref)) htd
    refine ⟨_, _, rfl, sam_ents (n := 0) (s8 _ _ ht7) upd_same (W7.keep fun _ _ h => s8 _ _ h) (W37.keep fun _ _ h => s8 _ _ h) hel he3, fun H9 s9 => ?_⟩
    exact key _ (((s06.trans s7).trans s8).trans s9)
end
end Sh
end
section
set_option Elab.async false
set_option linter.all false
set_option maxRecDepth 100000
set_option maxHeartbeats 16000000
namespace Sh
open PySem PySem.Spec PyProof.Rows L2 NdefX LamX ClX
open C8 (pss_cut tCut)
open Evl (ixN_nat)
theorem pe_X6 {X : Cx} {x : Str} {C : Addr} {pos : Pos} (hg : Gl X x) (h : X.mg x = some (.ref C)) (hd : (x == ("__debug__" : Str)) = false := by decide) : PE X (.Name x pos) (tC (.ref C)) := pe_glob hg h rfl hd
def ReadC (P : Program) (w : World) (K : PySem.W.Frag) (mg : Str → Option Value) (base : Heap) (C : Addr) : Prop := mg "Bed" = some (.ref C) ∧ ∃ mc p g, CRead K C mc ∧ CMet K C mc "read" p g ∧ FnR P w K mg base CX0 8 g (spRead6 C)
def spMade (P : Program) (w : World) (C CR : Addr) : Sp := fun vs H Q _ => ∃ (a : Addr) (rows : List Row) (D : RdD) (ex : List V), vs = [.str (txT rows), .ref a] ∧ ROk 4 rows ∧ D.Ok rows ∧ LrA P w H a D ex ∧ ∀ H' u b, Same H H' → RdAt C CR H' u b rows D → Q (.ref u) H'
abbrev N_law_made : List Str := ["text", "drawn"]
theorem sc_law_made : FnScope N_law_made ["text", "drawn"] (defScope s_law_made) := ⟨rfl, rfl, rfl, by decide +kernel, rfl, by decide +kernel, by decide +kernel⟩
section
variable {P : Program} {w : World} {K : PySem.W.Frag} {mg : Str → Option Value} {base : Heap} {C CR : Addr}
theorem ok_readC (T : Bl mg) (c_DIGITS : ∃ t, mg "DIGITS" = some (.str "0123456789" t)) {fI : Addr} (Mk_ : Mk K C fI) (FI : FnR P w K mg base CX0 5 fI (spBedS C)) (c_all_letters : DefOk P w K mg base CX0 1 "all_letters" spTrueNm) (gB : mg "Bed" = some (.ref C)) {mc : Value} {p g : Addr} {fd : FuncData} (hr : CRead K C mc) (hm : CMet K C mc "read" p g) (F : FunD K "read" "Bed.read" (defArgs s_read) (defBody s_read) (defScope s_read) [] [] g fd) : ReadC P w K mg base C := by
  have G : FnOk P w K mg base CX0 8 g fd ["cls", "text"] (spRead6 C) := F.ok sc_read (fun vs H Q E h => by obtain ⟨rows, rfl, _⟩ := h; rfl) fun cdv A outer s H vs Q E hr h => by
    obtain ⟨t, a, b⟩ := ok_read6 T c_DIGITS Mk_ FI c_all_letters hr h
    exact ⟨t, a.nox, b⟩
  refine ⟨gB, mc, p, g, hr, hm, fun A' outer s H us vs Q E hr e0 r hs => G.raw (F.bindsN fun _ _ _ _ _ _ us hl => match us, hl with | [_, _], _ => rfl) .nil A' outer s H us vs Q E hr e0 r (by show spRead6 C (vs ++ []) H Q E; rw [List.append_nil]; exact hs)⟩
theorem ok_made6 (T : Bl mg) (cRd : ReadC P w K mg base C) (c_Reader : RdC P w K mg base C CR 4) (D : Def0 K mg "_law_made" s_law_made) : DefOk P w K mg base CX0 9 "_law_made" (spMade P w C CR) := by
  refine D.ok sc_law_made (fun vs H Q E h => by obtain ⟨a, rows, D, ex, rfl, _⟩ := h; rfl) (fun _ _ _ _ _ _ us hl => match us, hl with | [_, _], _ => rfl) (fun f cdv A outer s0 H vs Q E hr h => ?_)
  obtain ⟨a, rows, D, ex, rfl, R, hD, hA, key⟩ := h
  obtain ⟨gBed, mc, pp, g, hCR, hCM, FR⟩ := cRd
  have m40 := hD.m3
  have hre := hD.re
  refine ⟨_, (pss_cons (ps_if (PW.pt (pw_and (pt_cmpR op_eq (pe_ix ix_list (pv 1) pe_int (fun _ _ => rfl)) pe_int (nomark _)) (pw_and1 (pt_cmpR op_eq (pe_op op_mod (pe_callB call_len_seq (by rfl) T.b_len boot_len (pa_cons (pe_ix ix_list (pv 1) pe_int (fun _ _ => rfl)) pa_nil)) pe_int) pe_int (nomark _)))))
        (pss_one (ps_ret (pe_reader c_Reader (hr.mono (by decide)) (pa_cons (pe_cmeth (pe_X6 (by rfl) gBed) hCR hCM FR (hr.mono (by decide)) pass0 (pa_cons (pv 0) pa_nil)) (pa_cons (pe_ix ix_list (pv 1) pe_int (fun _ _ => rfl)) (pa_cons (pe_ix ix_list (pv 1) pe_int (fun _ _ => rfl)) (pa_cons (pe_ix ix_list (pv 1) pe_int (fun _ _ => rfl)) pa_nil)))))))
        pss_nil)
      (pss_one (ps_ret (pe_readerK c_Reader (hr.mono (by decide)) (pa_cons (pe_cmeth (pe_X6 (by rfl) gBed) hCR hCM FR (hr.mono (by decide)) pass0 (pa_cons (pv 0) pa_nil)) (pa_cons (pe_ix ix_list (pv 1) pe_int (fun _ _ => rfl)) (pa_cons (pe_ix ix_list (pv 1) pe_int (fun _ _ => rfl)) (pa_cons (pe_ix ix_list (pv 1) pe_int (fun _ _ => rfl)) pa_nil)))) (pk_cons (pe_ix ix_list (pv 1) pe_int (fun _ _ => rfl)) pk_nil))))), ?_⟩
  obtain ⟨tR, tM, tS, vR, a1, a2, a3, a4, a5⟩ := id hA
  have aat : ∀ (j : Nat) (v : V), ([.int ((D.many : Nat) : Int), .ref tR, .int ((D.rest : Nat) : Int), .ref tM, .ref tS] : List V)[j]? = some v → ([.int ((D.many : Nat) : Int), .ref tR, .int ((D.rest : Nat) : Int), .ref tM, .ref tS] ++ ex : List V)[j]? = some v := fun j v h => by
    rw [List.getElem?_append_left (List.getElem?_eq_some_iff.mp h).1]
    exact h
  have mk : ∀ {H1 : Hp} {p x dx : Addr} {Q : VK}, Same H H1 → BedAt C H1 p rows → H1 x = none → H1 dx = none → dx ≠ x → (∀ H' u b, Same H H' → RdAt C CR H' u b rows D → Q (.ref u) H') → spRdI C CR [.ref x, .ref p, .int ((D.many : Nat) : Int), .ref tR, .ref tM, .int ((D.rest : Nat) : Int)] (upd (upd H1 dx (.own x)) x (.ins CR dx [])) (fun v H2 => v = .non ∧ Q (.ref x) H2) E0 := fun {H1 p x dx Q} s1 hB hx hdx hne k => by
    have sM : Same H1 (upd (upd H1 dx (.own x)) x (.ins CR dx [])) := ((Same.refl H1).upd_new hdx).upd_new (by rw [upd_ne (Ne.symm hne)]; exact hx)
    have hxx : (upd (upd H1 dx (.own x)) x (.ins CR dx [])) x = some (.ins CR dx []) := upd_same
    generalize upd (upd H1 dx (.own x)) x (.ins CR dx []) = H2 at sM hxx
    have s02 := s1.trans sM
    refine ⟨x, dx, p, tR, tM, vR, rows, D, rfl, hxx, hB.same sM, R, hD, s02 _ _ a2, a3.keep fun _ _ h => s02 _ _ h, s02 _ _ a4, fun H' kx hR => ⟨rfl, k H' x p (fun q o h => kx q o (s02 _ _ h) fun e => ?_) hR⟩⟩
    rw [e] at h
    rw [s1 _ _ h] at hx
    cases hx
  have l1 : (vR.map V.ref).length = D.rws.length := by rw [List.length_map, a3.1]
  have slow : ∀ (t : TS), True := fun _ => trivial
  refine ⟨_, rfl, a, _, _, _, rfl, rfl, SqL.of a1, at_ofG (j := 2) rfl (aat 2 _ rfl), rfl, _, rfl, ?_⟩
  by_cases c0 : D.rest = 0
  · refine ifp (by rw [veq]; exact decide_eq_true (by omega)) ?_
    refine ⟨_, rfl, a, _, _, _, rfl, rfl, SqL.of a1, at_ofG (j := 1) rfl (aat 1 _ rfl), tR, _, rfl, .inr (SqT.of a2), _, _, rfl, rfl, by show (0 : Int) < 2; decide, rfl, _, rfl, ite2 (fun _ => ?_) (fun _ => ?_)⟩
    · refine ⟨rfl, _, rfl, rows, rfl, R, fun H1 p s1 hp hB => ?_⟩
      refine ⟨_, rfl, a, _, _, _, rfl, rfl, SqL.of (s1 _ _ a1), at_ofG (j := 0) rfl (aat 0 _ rfl), _, rfl, a, _, _, _, rfl, rfl, SqL.of (s1 _ _ a1), at_ofG (j := 1) rfl (aat 1 _ rfl), _, rfl, a, _, _, _, rfl, rfl, SqL.of (s1 _ _ a1), at_ofG (j := 3) rfl (aat 3 _ rfl), fun x dx hx hdx hne => ?_⟩
      have := mk (Q := Q) s1 hB hx hdx hne key
      rw [c0] at this
      exact this
    · refine ⟨rfl, _, rfl, rows, rfl, R, fun H1 p s1 hp hB => ?_⟩
      refine ⟨_, rfl, a, _, _, _, rfl, rfl, SqL.of (s1 _ _ a1), at_ofG (j := 0) rfl (aat 0 _ rfl), _, rfl, a, _, _, _, rfl, rfl, SqL.of (s1 _ _ a1), at_ofG (j := 1) rfl (aat 1 _ rfl), _, rfl, a, _, _, _, rfl, rfl, SqL.of (s1 _ _ a1), at_ofG (j := 3) rfl (aat 3 _ rfl), _, rfl, a, _, _, _, rfl, rfl, SqL.of (s1 _ _ a1), at_ofG (j := 2) rfl (aat 2 _ rfl), rfl, rfl, fun x dx hx hdx hne => ?_⟩
      exact mk (Q := Q) s1 hB hx hdx hne key
  · refine ifn (by rw [veq]; intro e; exact c0 (by have := of_decide_eq_true e; omega)) ?_
    refine ⟨rfl, _, rfl, rows, rfl, R, fun H1 p s1 hp hB => ?_⟩
    refine ⟨_, rfl, a, _, _, _, rfl, rfl, SqL.of (s1 _ _ a1), at_ofG (j := 0) rfl (aat 0 _ rfl), _, rfl, a, _, _, _, rfl, rfl, SqL.of (s1 _ _ a1), at_ofG (j := 1) rfl (aat 1 _ rfl), _, rfl, a, _, _, _, rfl, rfl, SqL.of (s1 _ _ a1), at_ofG (j := 3) rfl (aat 3 _ rfl), _, rfl, a, _, _, _, rfl, rfl, SqL.of (s1 _ _ a1), at_ofG (j := 2) rfl (aat 2 _ rfl), rfl, rfl, fun x dx hx hdx hne => ?_⟩
    exact mk (Q := Q) s1 hB hx hdx hne key
end
end Sh
end
section
set_option Elab.async false
set_option linter.all false
set_option maxRecDepth 100000
set_option maxHeartbeats 16000000
namespace Sh
open PySem PySem.Spec PyProof.Rows L2
open C8 (pss_cut tCut)
open Evl (ixN_nat)
abbrev XE : Type := Str × List Int × Int
def xk (e : XE) : Str × List Int := (e.1, e.2.1)
def XwAt (H : Hp) (us : List Addr) (xs : List XE) : Prop := us.length = xs.length ∧ ∀ (i : Nat) (u : Addr) (e : XE), us[i]? = some u → xs[i]? = some e → ∃ b, H u = some (.tup [.str e.1, .ref b, .int e.2.2]) ∧ H b = some (.tup (iV e.2.1))
theorem XwAt.keep {H H' : Hp} {us : List Addr} {xs : List XE} (x : XwAt H us xs) (k : ∀ t ys, H t = some (.tup ys) → H' t = some (.tup ys)) : XwAt H' us xs := ⟨x.1, fun i u e h1 h2 => by
  obtain ⟨b, p, q⟩ := x.2 i u e h1 h2
  exact ⟨b, k _ _ p, k _ _ q⟩⟩
/-- a state among so many -/
def InS (m z : Int) : Prop := 0 ≤ z ∧ z < m
instance (m z : Int) : Decidable (InS m z) := inferInstanceAs (Decidable (_ ∧ _))
/-- a row that may not stand behind these -/
def XBad (rows : List Row) (m : Int) (ps : List XE) (e : XE) : Prop := ¬ HasN rows e.1 ∨ e.2.1.length ≠ wR rows e.1 ∨ xk e ∈ ps.map xk ∨ ∃ z ∈ e.2.1 ++ [e.2.2], ¬ InS m z
open Classical in
noncomputable def xfl (rows : List Row) (m : Int) : List XE → List XE → Nat → Option Nat
  | _, [], _ => none
  | ps, e :: es, i => if XBad rows m ps e then some i else xfl rows m (ps ++ [e]) es (i + 1)
theorem xfl_bad {rows : List Row} {m : Int} {ps : List XE} {e : XE} {es : List XE} {i : Nat} (h : XBad rows m ps e) : xfl rows m ps (e :: es) i = some i := by
  unfold xfl
  exact if_pos h
theorem xfl_good {rows : List Row} {m : Int} {ps : List XE} {e : XE} {es : List XE} {i : Nat} (h : ¬ XBad rows m ps e) : xfl rows m ps (e :: es) i = xfl rows m (ps ++ [e]) es (i + 1) := by
  conv => lhs; unfold xfl
  exact if_neg h
theorem xfl_at {rows : List Row} {m : Int} {xs : List XE} {i : Nat} {e : XE} (h : xs[i]? = some e) : (XBad rows m (xs.take i) e → xfl rows m (xs.take i) (xs.drop i) i = some i) ∧ (¬ XBad rows m (xs.take i) e → xfl rows m (xs.take (i + 1)) (xs.drop (i + 1)) (i + 1) = xfl rows m (xs.take i) (xs.drop i) i) := by
  obtain ⟨l, rfl⟩ := List.getElem?_eq_some_iff.mp h
  rw [List.drop_eq_getElem_cons l]
  refine ⟨fun b => xfl_bad b, fun b => ?_⟩
  rw [xfl_good b, take_snoc' h]
theorem xfl_end {rows : List Row} {m : Int} {xs : List XE} : xfl rows m (xs.take xs.length) (xs.drop xs.length) xs.length = none := by
  rw [List.drop_length]
  rfl
/-- ascending states from l on -/
def mfl (m : Int) : Int → List Int → Bool
  | _, [] => true
  | l, x :: xs => if x < l ∨ m ≤ x then false else mfl m (x + 1) xs
inductive RX where
  | many
  | at (i : Int)
noncomputable def rdDue (rows : List Row) (m : Int) (xs : List XE) (ms : List Int) (o : Int) : Option RX :=
  if 40 < m then some .many else if m < 1 then some (.at (-1)) else match xfl rows m [] xs 0 with
    | some i => some (.at ((i : Nat) : Int))
    | none => if mfl m 0 ms = false then some (.at (-2)) else if ¬ InS m o then some (.at (-3)) else none
structure XB where
  T : Addr
  R : Addr
def RX.cls (A : XB) : RX → Addr
  | .many => A.T
  | .at _ => A.R
def tmPS : List V → Prop := fun vs => vs = [.str "states", .int 40]
def tmFS : List (Str × V) := xfs ["what", "limit"] [.str "states", .int 40] []
def irP : List V → Prop := fun vs => ∃ i : Int, vs = [.int i] ∧ -3 ≤ i ∧ i ≤ 20000
def RX.fs : RX → List (Str × V)
  | .many => tmFS
  | .at i => xfs ["place"] [.int i] []
structure XBS (P : Program) (w : World) (K : PySem.W.Frag) (mg : Str → Option Value) (A : XB) : Prop where
  xT : PySem.SupX.SupCls P w K mg "TooMany" A.T ["what", "limit"] tmPS
  xR : PySem.SupX.SupCls P w K mg "InvalidReader" A.R ["place"] irP
def RzB (A : XB) (E : XK) (H : Hp) (x : RX) : Prop := ∀ H' d, Same H H' → H' d = none → E (.ref (x.cls A)) (some d) (upd H' d (.xd x.fs))
theorem RzB.same {A : XB} {E : XK} {H H1 : Hp} {x : RX} (h : RzB A E H x) (s : Same H H1) : RzB A E H1 x := fun H' d s' hd => h H' d (s.trans s') hd
def spStatesX (A : XB) : Sp := fun vs H Q E => ∃ m : Int, vs = [.int m] ∧ (40 < m → RzB A E H .many) ∧ (m < 1 → RzB A E H (.at (-1))) ∧ (1 ≤ m → m ≤ 40 → Q .non H)
def spAreX : Sp := fun vs H Q _ => ∃ (m : Int) (t : Addr) (zs : List Int), vs = [.int m, .ref t] ∧ H t = some (.tup (iV zs)) ∧ zs.length ≤ 1000 ∧ ∀ H' b, Same H H' → (b = true ↔ ∀ z ∈ zs, InS m z) → Q (.bl b) H'
def spMarksX (A : XB) : Sp := fun vs H Q E => ∃ (m : Int) (t : Addr) (ms : List Int), vs = [.int m, .ref t] ∧ H t = some (.tup (iV ms)) ∧ (mfl m 0 ms = false → RzB A E H (.at (-2))) ∧ (mfl m 0 ms = true → Q .non H)
def spByKindX (C : Addr) (A : XB) : Sp := fun vs H Q E => ∃ (b t : Addr) (us : List Addr) (m : Int) (rows : List Row) (xs : List XE), vs = [.ref b, .int m, .ref t] ∧ BedAt C H b rows ∧ ROk 4 rows ∧ H t = some (.tup (us.map V.ref)) ∧ XwAt H us xs ∧ xs.length ≤ 20000 ∧ (∀ e ∈ xs, e.2.1.length ≤ 100) ∧ (∀ i, xfl rows m [] xs 0 = some i → RzB A E H (.at ((i : Nat) : Int))) ∧ (xfl rows m [] xs 0 = none → ∀ H' d, Same H H' → Q (.ref d) H')
theorem iV_len (zs : List Int) : (iV zs).length = zs.length := List.length_map ..
theorem iV_at {zs : List Int} {i : Nat} {z : Int} (h : zs[i]? = some z) : (iV zs)[i]? = some (.int z) := by
  unfold iV
  rw [List.getElem?_map, h]
  rfl
theorem iV_app (a b : List Int) : iV a ++ iV b = iV (a ++ b) := (List.map_append ..).symm
/-- the keys and values of the cells, any integers -/
def czX (n : Str) (es : List XE) : List (List Key × V) := (es.filter fun e => decide (e.1 = n)).map fun e => (e.2.1.map .inl, .int e.2.2)
def ikey (zs : List Int) : List Key := zs.map .inl
theorem ikey_V (zs : List Int) : (ikey zs).map kV = iV zs := by
  unfold ikey iV
  rw [List.map_map]
  rfl
theorem ikey_inj {a b : List Int} (h : ikey a = ikey b) : a = b := by
  induction a generalizing b with
  | nil => cases b with
    | nil => rfl
    | cons y b => cases h
  | cons x a ih => cases b with
    | nil => cases h
    | cons y b =>
      obtain ⟨h1, h2⟩ := List.cons.inj h
      rw [ih h2, Sum.inl.inj h1]
theorem czX_val {n : Str} {zs : List Int} : ∀ {es : List XE}, (valV (czX n es) (ikey zs)).isSome = true ↔ (n, zs) ∈ es.map xk
  | [] => by simp [czX, valV]
  | e :: es => by
    have ih := czX_val (n := n) (zs := zs) (es := es)
    unfold czX at ih ⊢
    rw [List.map_cons, List.mem_cons, ← ih]
    by_cases c : e.1 = n
    · rw [List.filter_cons_of_pos (by simp [c]), List.map_cons]
      by_cases c2 : e.2.1 = zs
      · rw [valV_pos (by show List.map Sum.inl e.2.1 = ikey zs; rw [c2]; rfl)]
        simp [xk, c, c2]
      · rw [valV_neg (by show ¬ ikey e.2.1 = ikey zs; exact fun h => c2 (ikey_inj h))]
        have : ¬ (n, zs) = xk e := fun h => c2 (Prod.mk.inj h).2.symm
        simp [this]
    · rw [List.filter_cons_of_neg (by simp [c])]
      have : ¬ (n, zs) = xk e := fun h => c (Prod.mk.inj h).1.symm
      simp [this]
theorem czX_snoc_ne {n : Str} {e : XE} {es : List XE} (h : e.1 ≠ n) : czX n (es ++ [e]) = czX n es := by
  unfold czX
  rw [List.filter_append]
  have : List.filter (fun e => decide (e.1 = n)) [e] = [] := by simp [h]
  rw [this, List.append_nil]
theorem czX_put {n : Str} {zs : List Int} {s : Int} {es : List XE} (h : (n, zs) ∉ es.map xk) : putK (czX n es) (ikey zs) (.int s) = czX n (es ++ [(n, zs, s)]) := by
  have hn : valV (czX n es) (ikey zs) = none := by
    cases e : valV (czX n es) (ikey zs) with
    | none => rfl
    | some v => exact absurd (czX_val.mp (by rw [e]; rfl)) h
  rw [putK_new _ hn]
  unfold czX
  rw [List.filter_append, List.map_append]
  have : List.filter (fun e => decide (e.1 = n)) [((n, zs, s) : XE)] = [(n, zs, s)] := by simp
  rw [this]
  rfl
structure CxAt (H : Hp) (d : Addr) (ns : List Str) (ds : List Addr) (es : List XE) : Prop where
  at_ : H d = some (.dK (tnL ns ds))
  len : ds.length = ns.length
  nd : ds.Nodup
  nin : d ∉ ds
  row : ∀ (i : Nat) (n : Str) (a : Addr), ns[i]? = some n → ds[i]? = some a → H a = some (.dT (czX n es))
theorem CxAt.same {H H' : Hp} {d : Addr} {ns : List Str} {ds : List Addr} {es : List XE} (x : CxAt H d ns ds es) (s : Same H H') : CxAt H' d ns ds es :=
  ⟨s _ _ x.at_, x.len, x.nd, x.nin, fun i n a h1 h2 => s _ _ (x.row i n a h1 h2)⟩
theorem CxAt.put {H : Hp} {d : Addr} {ns : List Str} {ds : List Addr} {es : List XE} {i : Nat} {n : Str} {a : Addr} {zs : List Int} {s : Int} (x : CxAt H d ns ds es) (nd : ns.Nodup) (h1 : ns[i]? = some n) (h2 : ds[i]? = some a) (hf : (n, zs) ∉ es.map xk) : CxAt (upd H a (.dT (putK (czX n es) (ikey zs) (.int s)))) d ns ds (es ++ [(n, zs, s)]) := by
  have had := List.mem_of_getElem? h2
  refine ⟨by rw [upd_ne (fun e : d = a => x.nin (by rw [e]; exact had))]; exact x.at_, x.len, x.nd, x.nin, fun j n' a' g1 g2 => ?_⟩
  by_cases c : j = i
  · subst c
    rw [h1] at g1
    rw [h2] at g2
    cases g1
    cases g2
    rw [upd_same, czX_put hf]
  · have na : a' ≠ a := fun e => by
      subst e
      obtain ⟨l1, e1⟩ := List.getElem?_eq_some_iff.mp h2
      obtain ⟨l2, e2⟩ := List.getElem?_eq_some_iff.mp g2
      exact c ((List.getElem_inj x.nd).mp (e2.trans e1.symm))
    have nn : n ≠ n' := fun e => by
      subst e
      exact c (nd_at nd g1 h1)
    rw [upd_ne na, czX_snoc_ne nn]
    exact x.row j n' a' g1 g2
section
variable {P : Program} {w : World} {K : PySem.W.Frag} {mg : Str → Option Value} {base : Heap} {C : Addr} {A : XB}
theorem ok_statesX (T : Bl mg) (c_MOST_STATES : ∃ t, mg "MOST_STATES" = some (.int 40 t)) (x : XBS P w K mg A) (D : Def0 K mg "check_states" s_check_states) : DefOk P w K mg base (L2.CX P w) 2 "check_states" (spStatesX A) := by
  have x_TooMany := x.xT
  have x_InvalidReader := x.xR
  refine D.okX sc_check_states (fun vs H Q E h => by obtain ⟨m, rfl, _⟩ := h; rfl) (fun _ _ _ _ _ _ us hl => match us, hl with | [_], _ => rfl) (fun f cdv Ar outer s H vs Q E hr h => ?_)
  obtain ⟨m, rfl, h1, h2, k⟩ := h
  refine ⟨_, (pss_cons (ps_if (pt_cmpR op_gt (pv 0) (pe_cI (by rfl) c_MOST_STATES) (nomark _))
      (pss_one (ps_raiseSup rfl x_TooMany hr (takes_of rfl rfl rfl rfl) (pa_cons pe_str (pa_cons (pe_cI (by rfl) c_MOST_STATES) pa_nil))))
      pss_nil)
    (pss_one (ps_if (pt_cmpR op_lt (pv 0) pe_int (nomark _))
      (pss_one (ps_raiseSup rfl x_InvalidReader hr (takes_of rfl rfl rfl rfl) (pa_cons (pe_un un_neg pe_int) pa_nil)))
      pss_nil))), ?_⟩
  refine ⟨_, rfl, _, _, rfl, rfl, _, rfl, ite2 (fun c => ?_) (fun c => ⟨_, rfl, _, _, rfl, rfl, _, rfl, ite2 (fun c2 => ?_) (fun c2 => ?_)⟩)⟩
  · exact ⟨rfl, rfl, fun d hd => h1 (of_decide_eq_true c) _ d (Same.refl H) hd⟩
  · exact ⟨_, rfl, ⟨-1, rfl, by decide, by decide⟩, rfl, fun d hd => h2 (of_decide_eq_true c2) _ d (Same.refl H) hd⟩
  · exact k (by have : ¬ m < 1 := fun q => c2 (decide_eq_true q); omega) (by have : ¬ 40 < m := fun q => c (decide_eq_true q); omega)
theorem ok_areX (T : Bl mg) (D : Def0 K mg "are_states" s_are_states) : DefOk P w K mg base CX0 1 "are_states" spAreX := by
  refine D.ok sc_are_states (fun vs H Q E h => by obtain ⟨m, t, zs, rfl, _⟩ := h; rfl) (fun _ _ _ _ _ _ us hl => match us, hl with | [_, _], _ => rfl) (fun f cdv Ar outer s H vs Q E hr h => ?_)
  obtain ⟨m, t, zs, rfl, ht, h1, k⟩ := h
  refine ⟨_, (pss_one (ps_ret (pe_callB (cr_all rfl) (by rfl) T.b_all (by decide +kernel) (pa_cons (pe_lc (own := [("number", 2)]) (g := (gName 2)) (tt := tYes) rfl sc_are_states.nd (pi_tup (pv 1)) (blkOk_by (N := N_are_states) (sc := defScope s_are_states) (by decide +kernel)) (fun _ _ _ _ _ => (pg_name (i := 2) sc_are_states.nd rfl (Or.inl rfl))) (fun _ _ _ _ _ => pts_nil) (fun _ _ _ _ _ => (pe_chain op_le op_lt pe_int (pv 2) (pv 0)))) pa_nil)))), ?_⟩
  refine ⟨_, rfl, t, rfl, ⟨_, SqT.of ht⟩, fun D hD => lc_it (walk_tup (xs := iV zs)) (fun i H' => Same H H' ∧ H' D = some (.lst (((zs.take i).map fun z => decide (InS m z)).map V.bl))) ⟨(Same.refl H).upd_new hD, upd_same⟩ (fun i H' _ ⟨q, _⟩ => SqT.of (q _ _ ht)) ?_ ?_⟩
  · rintro i v H1 H2 hi ⟨q1, q2⟩ ⟨rfl, hv⟩
    rw [iV_len] at hi
    have hs := List.getElem?_eq_getElem hi
    rw [iV_at hs] at hv
    injection hv with hv
    subst hv
    have et : (zs.take (i + 1)).map (fun z => decide (InS m z)) = (zs.take i).map (fun z => decide (InS m z)) ++ [decide (InS m zs[i])] := by rw [take_snoc' hs, List.map_append]; rfl
    generalize zs[i] = z at et
    have fin : ∀ c : Bool, c = decide (InS m z) → ∃ vs, H2 D = some (.lst vs) ∧ vs.length < 10000000 ∧ (Same H (upd H2 D (.lst (vs ++ [.bl c]))) ∧ (upd H2 D (.lst (vs ++ [.bl c]))) D = some (.lst (((zs.take (i + 1)).map fun z => decide (InS m z)).map V.bl))) := fun c hc => by
      refine ⟨_, q2, ?_, q1.upd_own hD, ?_⟩
      · rw [List.length_map, List.length_map, List.length_take]
        omega
      · rw [upd_same, et, List.map_append, hc]
        rfl
    refine ⟨rfl, _, rfl, _, _, rfl, rfl, _, rfl, ite2 (fun c => ⟨_, rfl, _, _, rfl, rfl, ?_⟩) (fun c => ?_)⟩
    · obtain ⟨vs, e1, e2, e3⟩ := fin (decide (z < m)) (by
        have := of_decide_eq_true c
        unfold InS
        simp [this])
      exact ⟨vs, e1, lt_line (by omega), e3⟩
    · have hz : ¬ 0 ≤ z := fun h => c (decide_eq_true h)
      obtain ⟨vs, e1, e2, e3⟩ := fin false (by unfold InS; simp [hz])
      exact ⟨vs, e1, lt_line (by omega), e3⟩
  · rintro H1 ⟨q1, q2⟩
    rw [iV_len, List.take_length] at q2
    refine ⟨D, _, rfl, SqL.of q2, ?_⟩
    refine k H1 _ q1 ?_
    rw [List.all_eq_true]
    exact ⟨fun h z hz => of_decide_eq_true (h _ (List.mem_map.mpr ⟨z, hz, rfl⟩)), fun h b hb => by obtain ⟨z, hz, rfl⟩ := List.mem_map.mp hb; exact decide_eq_true (h z hz)⟩
theorem mfl_bad {m l x : Int} {xs : List Int} (h : x < l ∨ m ≤ x) : mfl m l (x :: xs) = false := by
  unfold mfl
  exact if_pos h
theorem mfl_good {m l x : Int} {xs : List Int} (h : ¬ (x < l ∨ m ≤ x)) : mfl m l (x :: xs) = mfl m (x + 1) xs := by
  conv => lhs; unfold mfl
  exact if_neg h
theorem ok_marksX (T : Bl mg) (x : XBS P w K mg A) (D : Def0 K mg "check_marks" s_check_marks) : DefOk P w K mg base (L2.CX P w) 2 "check_marks" (spMarksX A) := by
  have x_InvalidReader := x.xR
  refine D.okX sc_check_marks (fun vs H Q E h => by obtain ⟨m, t, ms, rfl, _⟩ := h; rfl) (fun _ _ _ _ _ _ us hl => match us, hl with | [_, _], _ => rfl) (fun f cdv Ar outer s H vs Q E hr h => ?_)
  obtain ⟨m, t, ms, rfl, ht, kb, k⟩ := h
  refine ⟨_, (pss_cons (ps_set (i := 2) sc_check_marks.nd rfl (Or.inl rfl) pe_int)
    (pss_one (ps_for (passes_of rfl) rfl (pi_tup (pv 1)) (pg_name (i := 3) sc_check_marks.nd rfl (Or.inl rfl))
      (pss_cons (ps_if (PW.pt (pw_or (pt_cmpR op_lt (pv 3) (pv 2) (nomark _)) (pw_or1 (pt_cmpR op_ge (pv 3) (pv 0) (nomark _)))))
        (pss_one (ps_raiseSup rfl x_InvalidReader hr (takes_of rfl rfl rfl rfl) (pa_cons (pe_un un_neg pe_int) pa_nil)))
        pss_nil)
      (pss_one (ps_set (i := 2) sc_check_marks.nd rfl (Or.inl rfl) (pe_op op_add (pv 3) pe_int))))))), ?_⟩
  refine ⟨_, rfl, t, rfl, ⟨_, SqT.of ht⟩, for_tup (xs := iV ms) (fun i σ H' => ∃ (x3 : Option V) (l : Int), σ = [some (.int m), some (.ref t), some (.int l), x3] ∧ H' = H ∧ mfl m l (ms.drop i) = mfl m 0 ms)
    ⟨none, 0, rfl, rfl, rfl⟩ (fun i σ H' _ ⟨_, _, _, e, _⟩ => by rw [e]; exact SqT.of ht) ?_ ?_⟩
  · rintro i v σ H1 hv ⟨x3, l, rfl, rfl, hl⟩
    have hi : i < ms.length := by rw [← iV_len ms]; exact (List.getElem?_eq_some_iff.mp hv).1
    have hs := List.getElem?_eq_getElem hi
    rw [iV_at hs] at hv
    injection hv with hv
    subst hv
    rw [List.drop_eq_getElem_cons hi] at hl
    generalize ms[i] = y at hl
    have bad : (y < l ∨ m ≤ y) → ∀ d, H1 d = none → E (.ref A.R) (some d) (upd H1 d (.xd (xfs ["place"] [.int (-2)] []))) := fun c d hd => kb (by rw [← hl, mfl_bad c]) _ d (Same.refl _) hd
    refine ⟨_, rfl, _, rfl, _, _, rfl, rfl, _, rfl, ite2 (fun c => ⟨_, rfl, ⟨-2, rfl, by decide, by decide⟩, rfl, bad (.inl (of_decide_eq_true c))⟩) (fun c => ⟨_, rfl, _, rfl, _, _, rfl, rfl, _, rfl, ite2 (fun c2 => ⟨_, rfl, ⟨-2, rfl, by decide, by decide⟩, rfl, bad (.inr (of_decide_eq_true c2))⟩) (fun c2 => ?_)⟩)⟩
    rw [mfl_good (by rintro (h | h); exact c (decide_eq_true h); exact c2 (decide_eq_true h))] at hl
    exact ⟨_, rfl, _, _, rfl, rfl, _, y + 1, rfl, rfl, hl⟩
  · rintro σ H1 ⟨x3, l, rfl, rfl, hl⟩
    rw [iV_len, List.drop_length] at hl
    exact k (by rw [← hl]; rfl)
theorem CxAt.of0 {H : Hp} {d : Addr} {ns : List Str} {ds : List Addr} (x : CzAt H d ns ds []) : CxAt H d ns ds [] := ⟨x.at_, x.len, x.nd, x.nin, x.row⟩
theorem ok_bykindX (T : Bl mg) (B : BedT K C) (x : XBS P w K mg A) (c_are_states : DefOk P w K mg base CX0 1 "are_states" spAreX) (D : Def0 K mg "rows_by_kind" s_rows_by_kind) : DefOk P w K mg base (L2.CX P w) 2 "rows_by_kind" (spByKindX C A) := by
  have x_InvalidReader := x.xR
  refine D.okX sc_rows_by_kind (fun vs H Q E h => by obtain ⟨b, t, us, m, rows, xs, rfl, _⟩ := h; rfl) (fun _ _ _ _ _ _ us hl => match us, hl with | [_, _, _], _ => rfl) (fun f cdv Ar outer s H vs Q E hr h => ?_)
  obtain ⟨b, t, us, m, rows, xs, rfl, hB, R, ht, hW, lx, lb, kb, key⟩ := h
  have hu := hu_of hr
  have r4 := R.len
  refine ⟨_, (pss_cons (ps_setDc (i := 3) (own := [("kind", 5)]) (g := (gName 5)) (tt := tYes) rfl sc_rows_by_kind.nd rfl rfl (sw_trueD rfl rfl rfl (by decide +kernel)) (pi_tup (pe_fld (pv 0) rfl)) (blkOk_by (N := N_rows_by_kind) (sc := defScope s_rows_by_kind) (by decide +kernel)) (fun _ _ _ _ _ => (pg_name (i := 5) sc_rows_by_kind.nd rfl (Or.inl rfl))) (fun _ _ _ _ _ => pts_nil) (fun _ _ _ _ _ => (pv 5)) (fun _ _ _ _ _ => pe_dnewT))
    (pss_cons (ps_for (passes_of rfl) rfl (pi_enumT (by rfl) T.b_enumerate (pa_cons (pv 2) pa_nil)) (pg_tup (by rfl) (pgs_cons (pg_name (i := 4) sc_rows_by_kind.nd rfl (Or.inl rfl)) (pgs_cons (pg_tup (by rfl) (pgs_cons (pg_name (i := 5) sc_rows_by_kind.nd rfl (Or.inl rfl)) (pgs_cons (pg_name (i := 6) sc_rows_by_kind.nd rfl (Or.inl rfl)) (pgs_cons (pg_name (i := 7) sc_rows_by_kind.nd rfl (Or.inl rfl)) pgs_nil)))) pgs_nil)))
      (pss_cons (ps_if (PW.pt (pw_or (pt_cmp (pc_dnotin hu (pv 5) (pv 3))) (pw_or (pt_cmpR op_ne (pe_callB call_len_seq (by rfl) T.b_len boot_len (pa_cons (pv 6) pa_nil)) (pe_dget hu (pe_fld (pv 0) rfl) (pv 5) (fun _ _ => rfl)) (nomark _)) (pw_or1 (pt_cmp (pc_din hu (pv 6) (pe_dget hu (pv 3) (pv 5) (fun _ _ => rfl))))))))
        (pss_one (ps_raiseSup rfl x_InvalidReader hr (takes_of rfl rfl rfl rfl) (pa_cons (pv 4) pa_nil)))
        pss_nil)
      (pss_cons (ps_if (pt_not (pt_val (pe_d c_are_states (hr.mono (by decide)) pass0 (pa_cons (pv 1) (pa_cons (pe_tup (StX.pa_star (pv 6) (pa_cons (pv 7) pa_nil))) pa_nil)))))
        (pss_one (ps_raiseSup rfl x_InvalidReader hr (takes_of rfl rfl rfl rfl) (pa_cons (pv 4) pa_nil)))
        pss_nil)
      (pss_one (ps_dput hu (pe_dget hu (pv 3) (pv 5) (fun _ _ => rfl)) (pv 6) (pv 7) rfl)))))
    (pss_one (ps_ret (pv 3))))), ?_⟩
  obtain ⟨bx, r, kk, ww, rk, ts, b1, b2, b3, b4, b5, b6⟩ := id hB
  refine ⟨_, rfl, b, C, bx, _, _, rfl, b1, B.cl, B.nK, lk_kinds _ _ _ _, kk, rfl, ⟨_, SqT.of b4⟩, fun D hD => dc_it (walk_tup (xs := (rows.map (·.1)).map V.str)) (fun i H' => Same H H' ∧ ∃ ds, CzAt H' D ((rows.map (·.1)).take i) ds [] ∧ ∀ a ∈ ds, H a = none)
    ⟨(Same.refl H).upd_new hD, [], ⟨upd_same, by simp, List.nodup_nil, (fun h => nomatch h), fun i n a h => by simp at h⟩, fun a h => nomatch h⟩ (fun i H' _ ⟨q, _⟩ => SqT.of (q _ _ b4)) ?_ ?_⟩
  · rintro i v H3 H4 hi ⟨s3, ds, T3, f3⟩ ⟨rfl, hv⟩
    rw [List.length_map] at hi
    obtain ⟨n, hn, rfl⟩ := get_map hv
    refine ⟨rfl, ?_⟩
    refine ⟨_, rfl, fun p hp => ?_⟩
    have npD : p ≠ D := fun e => by rw [e, T3.at_] at hp; cases hp
    have f2p := s3.free hp
    have hl : ((rows.map (·.1)).take i).length = i := by rw [List.length_take]; omega
    refine ⟨_, .inr n, rfl, by rw [upd_ne (Ne.symm npD)]; exact T3.at_, ?_, (s3.upd_new hp).upd_own hD, ds ++ [p], ?_, fun a ha => ?_⟩
    · unfold tnL
      rw [List.length_map, List.length_zip, hl]
      rw [List.length_map] at hi
      exact lt_line (n := min i _) (by omega)
    · rw [← take_snoc hn]
      refine T3.add hp fun hm => ?_
      have := nd_take R.nd (i := i) (by omega)
      obtain ⟨l1, e1⟩ := List.getElem?_eq_some_iff.mp hn
      exact this (e1 ▸ hm)
    · rcases List.mem_append.mp ha with ha | ha
      · exact f3 a ha
      · rw [List.mem_singleton.mp ha]
        exact f2p
  rintro H3 ⟨s3, ds, T3, f3⟩
  rw [List.length_map, List.take_length] at T3
  have T3 := CxAt.of0 T3
  have lus : (us.map V.ref).length = xs.length := by rw [List.length_map, hW.1]
  refine ⟨_, rfl, t, _, rfl, SqT.of (s3 _ _ ht), for_it (walk_enumT (xs := us.map V.ref)) (fun i σ H' => ∃ (x4 x5 x6 x7 : Option V), σ = [some (.ref b), some (.int m), some (.ref t), some (.ref D), x4, x5, x6, x7] ∧ Same H H' ∧ CxAt H' D (rows.map (·.1)) ds (xs.take i) ∧ xfl rows m (xs.take i) (xs.drop i) i = xfl rows m [] xs 0)
    ⟨none, none, none, none, rfl, s3, T3, rfl⟩ (fun i σ H' _ ⟨_, _, _, _, _, s2, _⟩ => SqT.of (s2 _ _ ht)) ?_ ?_⟩
  · rintro i v σ H4 H4' hi ⟨x4, x5, x6, x7, rfl, s4, T4, hx⟩ ⟨P1, v1, v2, rfl, hP1, rfl, e1, e2⟩
    cases e1
    have his : i < xs.length := by rw [lus] at hi; exact hi
    have hiu : i < us.length := by rw [hW.1]; exact his
    have hqi := List.getElem?_eq_getElem his
    obtain ⟨bb, w1, w2⟩ := hW.2 i us[i] xs[i] (List.getElem?_eq_getElem hiu) hqi
    have lbi := lb _ (List.getElem_mem his)
    have w1 := s4 _ _ w1
    have w2 := s4 _ _ w2
    have e2' : (us.map V.ref)[i]? = some v2 := e2
    rw [List.getElem?_map, List.getElem?_eq_getElem hiu] at e2'
    cases e2'
    obtain ⟨g1, g2⟩ := xfl_at (rows := rows) (m := m) hqi
    have etk := take_snoc' hqi
    generalize us[i] = u at w1
    generalize xs[i] = en at hqi w1 w2 g1 g2 lbi etk
    have s5 := (Same.refl H4).upd_new (o := .tup [.int ((i : Nat) : Int), .ref u]) hP1
    have f5 : (upd H4 P1 (.tup [.int ((i : Nat) : Int), .ref u])) P1 = some (.tup [.int ((i : Nat) : Int), .ref u]) := upd_same
    generalize upd H4 P1 (.tup [.int ((i : Nat) : Int), .ref u]) = H5 at s5 f5
    have T5 := T4.same s5
    have s05 := s4.trans s5
    obtain ⟨z, ss, sv⟩ := en
    have bad : XBad rows m (xs.take i) (z, ss, sv) → ∀ H', Same H H' → ∀ d, H' d = none → E (.ref A.R) (some d) (upd H' d (.xd (xfs ["place"] [.int ((i : Nat) : Int)] []))) := fun c H' s d hd => kb i (by rw [← hx, g1 c]) H' d s hd
    have tEnd : ∀ H', Same H H' → XBad rows m (xs.take i) (z, ss, sv) → irP [.int ((i : Nat) : Int)] ∧ [V.int ((i : Nat) : Int)].length = ["place"].length ∧ ∀ d, H' d = none → E (.ref A.R) (some d) (upd H' d (.xd (xfs ["place"] [.int ((i : Nat) : Int)] []))) := fun H' s c => ⟨⟨i, rfl, by omega, by omega⟩, rfl, bad c H' s⟩
    refine ⟨P1, _, rfl, SqT.of f5, rfl, _, _, rfl, _, _, rfl, u, _, rfl, SqT.of (s5 _ _ w1), rfl, _, _, rfl, _, _, rfl, _, _, rfl, rfl, rfl, ?_⟩
    by_cases hz : HasN rows z
    · obtain ⟨q, hq, eq1⟩ := id hz
      obtain ⟨k, hk⟩ := List.mem_iff_getElem?.mp (List.mem_map.mpr ⟨q, hq, eq1⟩ : z ∈ rows.map (·.1))
      have hkl := (List.getElem?_eq_some_iff.mp hk).1
      have hda := List.getElem?_eq_getElem (show k < ds.length by rw [T5.len]; exact hkl)
      have fa := f3 _ (List.getElem_mem (show k < ds.length by rw [T5.len]; exact hkl))
      generalize ds[k]'(by rw [T5.len]; exact hkl) = a at hda fa
      have ha := T5.row k z a hk hda
      have gT : DGet H5 D (.str z) (some (.ref a)) := by
        have := DGet.k (k := .inr z) T5.at_
        rw [tn_val R.nd hk hda] at this
        exact this
      have gW : DGet H5 ww (.str z) (some (.int ((wR rows z : Nat) : Int))) := by
        have := DGet.k (k := .inr z) (s05 _ _ b5)
        rw [val_wL R hz] at this
        exact this
      have gC : DGet H5 a (.ref bb) (valV (czX z (xs.take i)) (ikey ss)) := DGet.t (k := ikey ss) ha (by rw [s5 _ _ w2, ikey_V])
      have lss : ss.length ≤ 100 := lbi
      refine ⟨_, rfl, _, rfl, D, _, rfl, gT, _, rfl, ite2 (fun c => absurd c (by simp)) (fun _ => ?_)⟩
      refine ⟨_, rfl, bb, _, rfl, .inr (SqT.of (s5 _ _ w2)), _, rfl, b, C, bx, _, _, rfl, s05 _ _ b1, B.cl, B.nW, lk_widths _ _ _ _, _, rfl, ww, _, rfl, gW, rfl, _, rfl, ite2 (fun c => ?_) (fun c => ?_)⟩
      · rw [iV_len] at c
        obtain ⟨q1, q2, q3⟩ := tEnd H5 s05 (.inr (.inl fun e => by have e : ss.length = wR rows z := e; rw [e] at c; simp at c))
        exact ⟨_, rfl, q1, q2, q3⟩
      have hl : ss.length = wR rows z := by
        rw [iV_len] at c
        have : ¬ ¬ ((ss.length : Nat) : Int) = ((wR rows z : Nat) : Int) := fun h => c (by simpa using h)
        omega
      refine ⟨_, rfl, _, rfl, _, rfl, D, _, rfl, gT, a, _, rfl, gC, _, rfl, ite2 (fun c2 => ?_) (fun c2 => ?_)⟩
      · obtain ⟨q1, q2, q3⟩ := tEnd H5 s05 (.inr (.inr (.inl (czX_val.mp (by simpa using c2)))))
        exact ⟨_, rfl, q1, q2, q3⟩
      have fr : (z, ss) ∉ (xs.take i).map xk := fun h => c2 (by simpa using czX_val.mpr h)
      refine ⟨_, rfl, _, rfl, bb, _, rfl, .inl (SqT.of (s5 _ _ w2)), _, rfl, le_line (by rw [List.length_append, iV_len]; show ss.length + 1 ≤ 10000000; omega), fun v hv => ?_⟩
      have s6 := (Same.refl H5).upd_new (o := .tup (iV ss ++ [.int sv])) hv
      have v6 : (upd H5 v (.tup (iV ss ++ [.int sv]))) v = some (.tup (iV (ss ++ [sv]))) := by rw [upd_same, ← iV_app]; rfl
      refine ⟨m, v, ss ++ [sv], rfl, v6, by rw [List.length_append]; show ss.length + 1 ≤ 1000; omega, fun H7 bo s7 hbo => ?_⟩
      have s57 := s6.trans s7
      refine ⟨_, rfl, ite2 (fun c3 => ?_) (fun c3 => ?_)⟩
      · obtain ⟨q1, q2, q3⟩ := tEnd H7 (s05.trans s57) (.inr (.inr (.inr (by
          have hne : ¬ bo = true := by simpa using c3
          rw [hbo] at hne
          obtain ⟨y, hy⟩ := Classical.not_forall.mp hne
          exact ⟨y, (Classical.not_imp.mp hy).1, (Classical.not_imp.mp hy).2⟩))))
        exact ⟨_, rfl, q1, q2, q3⟩
      have hall := hbo.mp (by simpa using c3)
      have T7 := T5.same s57
      have gT7 : DGet H7 D (.str z) (some (.ref a)) := by
        have := DGet.k (k := .inr z) T7.at_
        rw [tn_val R.nd hk hda] at this
        exact this
      have a7 := T7.row k z a hk hda
      have w7 := s57 _ _ (s5 _ _ w2)
      refine ⟨_, rfl, _, rfl, _, rfl, D, _, rfl, gT7, _, rfl, a, _, rfl, DPut.t (k := ikey ss) a7 (by rw [w7, ikey_V]) ?_, ?_⟩
      · unfold czX
        rw [List.length_map]
        exact lt_line (Nat.le_trans (List.length_filter_le _ _) (by rw [List.length_take]; omega))
      refine ⟨_, _, _, _, rfl, (s05.trans s57).upd_own fa, ?_, ?_⟩
      · rw [etk]
        exact T7.put R.nd hk hda fr
      · rw [g2 (by
          rintro (h | h | h | ⟨y, hy, hn⟩)
          · exact h hz
          · exact h hl
          · exact fr h
          · exact hn (hall y hy)), hx]
    · have gT : DGet H5 D (.str z) none := by
        have := DGet.k (k := .inr z) T5.at_
        rw [valV_none (s := z) (fun kv hkv e => by
          unfold tnL at hkv
          obtain ⟨q, hq, rfl⟩ := List.mem_map.mp hkv
          have e : q.1 = z := Sum.inr.inj e
          obtain ⟨r0, hr0, e0⟩ := List.mem_map.mp (List.of_mem_zip hq).1
          exact hz ⟨r0, hr0, e0.trans e⟩)] at this
        exact this
      obtain ⟨q1, q2, q3⟩ := tEnd H5 s05 (.inl hz)
      refine ⟨_, rfl, _, rfl, D, _, rfl, gT, _, rfl, ifp rfl ?_⟩
      exact ⟨_, rfl, q1, q2, q3⟩
  · rintro σ H4 ⟨x4, x5, x6, x7, rfl, s4, T4, hx⟩
    rw [lus, xfl_end] at hx
    exact ⟨_, rfl, key hx.symm H4 D s4⟩
end
end Sh
end
section
set_option Elab.async false
set_option linter.all false
set_option maxRecDepth 100000
set_option maxHeartbeats 16000000
namespace L2
open PySem PySem.Spec PyProof.Rows
def tMakeKS (C : Addr) (n m : Nat) (sp : Sp) (gV : List V → List V → List V) (E : L2.St → XK) (t tk : TA) : TE := fun σ H Q => t σ H fun vs H1 => tk σ H1 fun zs H2 => vs.length = n ∧ zs.length = m ∧ ∀ x dx, H2 x = none → H2 dx = none → dx ≠ x → sp (gV (.ref x :: vs) zs) (upd (upd H2 dx (.own x)) x (.ins C dx [])) (fun v H3 => v = .non ∧ Q (.ref x) H3) (E σ)
section
variable {X : Cx} {CX : CXT} {k n : Nat} {f C : Addr} {fd : FuncData} {ps ks : List Str} {sp : Sp} {E : L2.St → XK} {x : Str} {e : Expr} {es : List Expr} {t tk : TA} {p pos : Pos} {kws : List Keyword} {g : List Value → List Value → List Value} {gV : List V → List V → List V}
theorem pe_makeKS (M : Mk X.K C f) (F : FnOk X.prog X.w X.K X.mg X.base CX k f fd ps sp) (hr : Room (k + 1) X.A) (hg : Gl X x) (hm : X.mg x = some (.ref C)) (hk : KBn X.K fd ps (n + 1) ks g gV) (hx : ∀ σ, PassesAt CX X σ (E σ)) (ha : PA X (e :: es) t) (hkw : PK X kws tk)
    (hall : (backToKw pos (keywordEach kws X.env)).all (·.1.isSome) = true := by rfl) (hks : (backToKw pos (keywordEach kws X.env)).filterMap (·.1) = ks := by rfl)
    (hdb : (x == ("__debug__" : Str)) = false := by decide)
    (he : starEach (e :: es) X.env = (false, eval e X.env) :: starEach es X.env := by rfl) (hpl : ((backTo pos (starEach (e :: es) X.env)).any (·.1) || (backToKw pos (keywordEach kws X.env)).any (·.1.isNone)) = false := by rfl) :
    PE X (.Call (.Name x p) (e :: es) kws pos) (tMakeKS C n ks.length sp gV E t tk) := by
  refine ⟨fun pins s σ H Q I h => ?_⟩
  refine wpAny_Call_Name_kw (ld_glob I hg hm ?_ hdb)
  refine PySem.W.callWith_KW (h₀ := X.base) I.ok.mod.kin M.kp hall (thn (ha.run pos pins s σ H _ I h) fun us s1 ⟨vs, H1, I1, r, q⟩ => ?_) hpl he
  refine thn (hkw.run pos pins s1 σ H1 _ I1 q) fun ws s2 ⟨zs, H2, I2, rz, ln, lm, q2⟩ => ⟨I2.kIn, ?_⟩
  rw [hks]
  have hq := q2 (s2.heap.objs.size + 1) s2.heap.objs.size (I2.hok.fresh (Nat.le_succ _)) (I2.hok.fresh (Nat.le_refl _)) (Nat.ne_of_lt (Nat.lt_succ_self _))
  have I3 := Inv.made (C := C) I2
  have r2 : Vals (V.ref (s2.heap.objs.size + 1) :: vs) (Value.ref (s2.heap.objs.size + 1) :: us) := .cons rfl r
  refine wpAny_call (make_map (f := f) I2.kIn M.makes M.init (beq_iff_eq.mp M.fn) (codeAny_mono (F.run _ X.stack _ _ ⟨Value.ref (s2.heap.objs.size + 1) :: us, ks.zip ws⟩ (g (Value.ref (s2.heap.objs.size + 1) :: us) ws) _ _ (E σ) (hr.make C us (ks.zip ws)) (I3.env0.make C us (ks.zip ws)) (hk.to _ _ _ I3.kIn (by rw [List.length_cons, ← r.length, ln]) (by rw [← rz.length, lm])) (hk.rel r2 rz) hq) fun r s' hq' => ?_))
  cases r with
  | error e => exact hx σ pins _ _ e s' I3 hq'
  | ok fl =>
    cases fl with
    | ret u =>
      obtain ⟨v, H', I4, rv, ev, q3⟩ := I3.after hq'
      subst ev
      exact ⟨rv, ⟨V.ref (s2.heap.objs.size + 1), H', I4, rfl, q3⟩⟩
    | next => exact False.elim hq'
    | brk => exact False.elim hq'
    | cont => exact False.elim hq'
end
end L2
namespace Sh
open PySem PySem.Spec PyProof.Rows L2
open C8 (pss_cut tCut)
open Evl (ixN_nat)
def rdFX (b : Addr) (m : Int) (d mt : Addr) (o : Int) : List (Str × V) := [("bed", .ref b), ("states", .int m), ("cells", .ref d), ("marks", .ref mt), ("otherwise", .int o)]
theorem rdx_put5 (b d t : Addr) (m o : Int) : putF "otherwise" (.int o) [("bed", .ref b), ("states", .int m), ("cells", .ref d), ("marks", .ref t)] = rdFX b m d t o := by simp [putF, q_ne, rdFX]
def spRdIX (C CR : Addr) (A : XB) : Sp := fun vs H Q E => ∃ (x dx b tR tM : Addr) (us : List Addr) (rows : List Row) (m o : Int) (xs : List XE) (ms : List Int), vs = [.ref x, .ref b, .int m, .ref tR, .ref tM, .int o] ∧ H x = some (.ins CR dx []) ∧ BedAt C H b rows ∧ ROk 4 rows ∧ H tR = some (.tup (us.map V.ref)) ∧ XwAt H us xs ∧ xs.length ≤ 20000 ∧ (∀ e ∈ xs, e.2.1.length ≤ 100) ∧ H tM = some (.tup (iV ms)) ∧
  (∀ y, rdDue rows m xs ms o = some y → RzB A E H y) ∧ (rdDue rows m xs ms o = none → ∀ H' d, Kp x H H' → H' x = some (.ins CR dx (rdFX b m d tM o)) → Q .non H')
section
variable {P : Program} {w : World} {K : PySem.W.Frag} {mg : Str → Option Value} {base : Heap} {C CR : Addr} {A : XB}
theorem body_rdIX (T : Bl mg) (B : BedT K C) (BR : RdT K CR) (x : XBS P w K mg A) (c_check_states : DefOk P w K mg base (L2.CX P w) 2 "check_states" (spStatesX A)) (c_are_states : DefOk P w K mg base CX0 1 "are_states" spAreX) (c_check_marks : DefOk P w K mg base (L2.CX P w) 2 "check_marks" (spMarksX A)) (c_rows_by_kind : DefOk P w K mg base (L2.CX P w) 2 "rows_by_kind" (spByKindX C A)) {f0 : Addr} {cdv : Value} {A' : Around} {outer : List Env} {s' : Shared} {H : Hp} {vs : List V} {Q : VK} {E : XK} (hr : Room 3 (A'.deeper (envOfC "Reader.__init__" (defScope s_Reader_init__) s'.heap.objs.size f0 cdv))) (h : spRdIX C CR A vs H Q E) :
    ∃ t, PSs (cxOf (L2.CX P w) P w K mg base N_Reader_init__ "Reader.__init__" (defScope s_Reader_init__) f0 cdv A' outer s' H E) (defBody s_Reader_init__) t ∧ t { nx := fun _ H' => Q .non H', rt := Q } (start N_Reader_init__ vs) H := by
  obtain ⟨y, dx, b, tR, tM, us, rows, m, o, xs, ms, rfl, hx, hB, R, hR, hW, lx, lb, hM, kE, key⟩ := h
  have hu := hu_of hr
  have x_InvalidReader := x.xR
  unfold rdDue at kE key
  refine ⟨_, (pss_cons (ps_expr (pe_d c_check_states (hr.mono (by decide)) (passes_call (takes_of rfl rfl rfl rfl) fun _ _ _ _ h => h) (pa_cons (pv 2) pa_nil)))
    (pss_cons (ps_set (i := 6) sc_Reader_init__.nd rfl (Or.inl rfl) (pe_d c_rows_by_kind (hr.mono (by decide)) (passes_call (takes_of rfl rfl rfl rfl) fun _ _ _ _ h => h) (pa_cons (pv 1) (pa_cons (pv 2) (pa_cons (pv 3) pa_nil)))))
    (pss_cons (ps_expr (pe_d c_check_marks (hr.mono (by decide)) (passes_call (takes_of rfl rfl rfl rfl) fun _ _ _ _ h => h) (pa_cons (pv 2) (pa_cons (pv 4) pa_nil))))
    (pss_cons (ps_if (pt_not (pt_val (pe_d c_are_states (hr.mono (by decide)) pass0 (pa_cons (pv 2) (pa_cons (pe_tup (pa_cons (pv 5) pa_nil)) pa_nil)))))
      (pss_one (ps_raiseSup rfl x_InvalidReader hr (takes_of rfl rfl rfl rfl) (pa_cons (pe_un un_neg pe_int) pa_nil)))
      pss_nil)
    (pss_cons (ps_fld (pv 0) (pv 1) rfl)
    (pss_cons (ps_fld (pv 0) (pv 2) rfl)
    (pss_cons (ps_fld (pv 0) (pv 6) rfl)
    (pss_cons (ps_fld (pv 0) (pv 4) rfl)
    (pss_one (ps_fld (pv 0) (pv 5) rfl)))))))))), ?_⟩
  refine ⟨_, rfl, m, rfl, fun c => ?_, fun c => ?_, fun c1 c2 => ?_⟩
  · rw [if_pos c] at kE
    exact kE _ rfl
  · rw [if_neg (by omega), if_pos c] at kE
    exact kE _ rfl
  rw [if_neg (by omega), if_neg (by omega)] at kE key
  refine ⟨_, rfl, _, rfl, _, rfl, b, tR, us, m, rows, xs, rfl, hB, R, hR, hW, lx, lb, fun i hi => ?_, fun hi H1 d s1 => ?_⟩
  · rw [hi] at kE
    exact kE _ rfl
  rw [hi] at kE key
  refine ⟨_, rfl, _, rfl, m, tM, ms, rfl, s1 _ _ hM, fun c => ?_, fun c => ?_⟩
  · have kE : ∀ y, (if mfl m 0 ms = false then some (RX.at (-2)) else if ¬ InS m o then some (RX.at (-3)) else none) = some y → RzB A E H y := kE
    rw [if_pos c] at kE
    exact (kE _ rfl).same s1
  have kE : ∀ y, (if mfl m 0 ms = false then some (RX.at (-2)) else if ¬ InS m o then some (RX.at (-3)) else none) = some y → RzB A E H y := kE
  have key : (if mfl m 0 ms = false then some (RX.at (-2)) else if ¬ InS m o then some (RX.at (-3)) else none) = none → ∀ H' d, Kp y H H' → H' y = some (.ins CR dx (rdFX b m d tM o)) → Q .non H' := key
  rw [if_neg (by rw [c]; decide)] at kE key
  refine ⟨_, rfl, _, rfl, le_line (show 1 ≤ 10000000 by decide), fun v hv => ?_⟩
  have s2 := s1.upd_new (o := .tup [.int o]) hv
  have v2 : (upd H1 v (.tup [.int o])) v = some (.tup (iV [o])) := upd_same
  generalize upd H1 v (.tup [.int o]) = H2 at s2 v2
  refine ⟨m, v, [o], rfl, v2, (show 1 ≤ 1000 by decide), fun H3 bo s3 hbo => ?_⟩
  have s03 := s2.trans s3
  refine ⟨_, rfl, ite2 (fun c3 => ?_) (fun c3 => ?_)⟩
  · have hne : ¬ bo = true := by simpa using c3
    rw [hbo] at hne
    have hno : ¬ InS m o := fun h => hne fun z hz => by rw [List.mem_singleton.mp hz]; exact h
    rw [if_pos hno] at kE
    exact ⟨_, rfl, ⟨-3, rfl, by decide, by decide⟩, rfl, fun d hd => kE _ rfl _ d s03 hd⟩
  have hyes : InS m o := hbo.mp (by simpa using c3) o (List.mem_singleton.mpr rfl)
  rw [if_neg (not_not_intro hyes)] at key
  refine ⟨_, rfl, _, rfl, y, CR, dx, _, rfl, s03 _ _ hx, BR.cl, BR.nB, (by show 0 < 1000; decide), ?_⟩
  refine ⟨_, rfl, _, rfl, y, CR, dx, _, rfl, upd_same, BR.cl, BR.nS, (by show 1 < 1000; decide), ?_⟩
  rw [show putF "bed" (.ref b) [] = [(("bed" : Str), V.ref b)] from rfl, rd_put2]
  refine ⟨_, rfl, _, rfl, y, CR, dx, _, rfl, upd_same, BR.cl, BR.nC, (by show 2 < 1000; decide), ?_⟩
  rw [rd_put3]
  refine ⟨_, rfl, _, rfl, y, CR, dx, _, rfl, upd_same, BR.cl, BR.nM, (by show 3 < 1000; decide), ?_⟩
  rw [rd_put4]
  refine ⟨_, rfl, _, rfl, y, CR, dx, _, rfl, upd_same, BR.cl, BR.nO, (by show 4 < 1000; decide), ?_⟩
  rw [rdx_put5]
  exact key rfl _ d ((Kp.same s03).trans (((((Kp.refl y H3).upd).upd).upd).upd).upd) upd_same
end
def RdCX (P : Program) (w : World) (K : PySem.W.Frag) (mg : Str → Option Value) (base : Heap) (C CR : Addr) (A : XB) (k : Nat) : Prop := mg "Reader" = some (.ref CR) ∧ ∃ fI fd, Mk K CR fI ∧ FnOk P w K mg base (L2.CX P w) k fI fd ["self", "bed", "states", "rows", "marks", "otherwise"] (spRdIX C CR A) ∧ KBn K fd ["self", "bed", "states", "rows", "marks", "otherwise"] 5 (["otherwise"] : List Str) (fun us ws => us ++ ws) (fun vs zs => vs ++ zs)
theorem pe_readerKX {X : Cx} {C CR : Addr} {A : XB} {k : Nat} {e : Expr} {es : List Expr} {kws : List Keyword} {t tk : TA} {E : L2.St → XK} {p pos : Pos} (D : RdCX X.prog X.w X.K X.mg X.base C CR A k) (hr : Room (k + 1) X.A) (hx : ∀ σ, PassesAt (L2.CX X.prog X.w) X σ (E σ)) (ha : PA X (e :: es) t) (hkw : PK X kws tk) (hg : Gl X "Reader" := by rfl)
    (hall : (backToKw pos (keywordEach kws X.env)).all (·.1.isSome) = true := by rfl) (hks : (backToKw pos (keywordEach kws X.env)).filterMap (·.1) = (["otherwise"] : List Str) := by rfl)
    (he : starEach (e :: es) X.env = (false, eval e X.env) :: starEach es X.env := by rfl) (hpl : ((backTo pos (starEach (e :: es) X.env)).any (·.1) || (backToKw pos (keywordEach kws X.env)).any (·.1.isNone)) = false := by rfl) :
    PE X (.Call (.Name "Reader" p) (e :: es) kws pos) (tMakeKS CR 4 1 (spRdIX C CR A) (fun vs zs => vs ++ zs) E t tk) := by
  obtain ⟨hm, fI, fd, M, F, hk⟩ := D
  exact pe_makeKS M F hr hg hm hk hx ha hkw hall hks (by decide) he hpl
end Sh
end
section
set_option Elab.async false
set_option linter.all false
set_option maxRecDepth 100000
set_option maxHeartbeats 16000000
namespace Sh
open PySem PySem.Spec PyProof.Rows L2 NdefX LamX
open C8 (pss_cut tCut)
open Evl (ixN_nat)
theorem sV_len (l : List Str) : (sV l).length = l.length := List.length_map ..
theorem sV_at {l : List Str} {i : Nat} {z : Str} (h : l[i]? = some z) : (sV l)[i]? = some (.str z) := by
  unfold sV
  rw [List.getElem?_map, h]
  rfl
theorem nI_rev (l : List Nat) : (nI l).reverse = nI l.reverse := (List.map_reverse ..).symm
theorem rev_range {β : Type} (n : Nat) (f : Nat → β) : ((List.range n).map fun j => f (n - 1 - j)).reverse = (List.range n).map f := by
  apply List.ext_getElem?
  intro i
  by_cases c : i < n
  · rw [List.getElem?_reverse (by rw [List.length_map, List.length_range]; exact c), List.length_map, List.length_range, List.getElem?_map, List.getElem?_map, List.getElem?_range (by omega), List.getElem?_range c]
    show some (f (n - 1 - (n - 1 - i))) = some (f i)
    rw [show n - 1 - (n - 1 - i) = i by omega]
  · rw [List.getElem?_eq_none (by rw [List.length_reverse, List.length_map, List.length_range]; omega), List.getElem?_eq_none (by rw [List.length_map, List.length_range]; omega)]
/-- the states of the plants one behind the other -/
def stL (rows : List Row) (D : RdD) (l : List Str) : List Nat := l.foldr (fun z st => D.stp z (st.take (wR rows z)) :: st.drop (wR rows z)) []
theorem stL_cons (rows : List Row) (D : RdD) (z : Str) (l : List Str) : stL rows D (z :: l) = D.stp z ((stL rows D l).take (wR rows z)) :: (stL rows D l).drop (wR rows z) := rfl
def stsL (rows : List Row) (D : RdD) (l : List Str) : List Nat := (List.range l.length).map fun i => (stL rows D (l.drop i)).headD 0
theorem stL_ok {rows : List Row} {D : RdD} (R : ROk 4 rows) (hD : D.Ok rows) : ∀ (l : List Str) (n : Nat), Mth.forest (wR rows) l n = true → (∀ z ∈ l, HasN rows z) → (stL rows D l).length = n ∧ ∀ s ∈ stL rows D l, s < D.many
  | [], n, h, _ => ⟨(Mth.forest_nil _ h).symm, fun s h => nomatch h⟩
  | z :: l, 0, h, _ => by cases h
  | z :: l, n + 1, h, hz => by
    obtain ⟨h1, h2⟩ := stL_ok R hD l (wR rows z + n) h fun y hy => hz y (List.mem_cons_of_mem _ hy)
    rw [stL_cons]
    refine ⟨by rw [List.length_cons, List.length_drop, h1]; omega, fun s hs => ?_⟩
    rcases List.mem_cons.mp hs with rfl | hs
    · exact hD.stp_lt R (hz z List.mem_cons_self) (by rw [List.length_take, h1]; omega) fun s hs => h2 s (List.mem_of_mem_take hs)
    · exact h2 s (List.mem_of_mem_drop hs)
theorem stL_len (rows : List Row) (D : RdD) : ∀ l : List Str, (stL rows D l).length ≤ l.length
  | [] => Nat.le_refl _
  | z :: l => by
    have := stL_len rows D l
    rw [stL_cons, List.length_cons, List.length_drop, List.length_cons]
    omega
theorem stL_suf {rows : List Row} {D : RdD} {c : List Str} (R : ROk 4 rows) (hD : D.Ok rows) (h : PlantOk rows c) {i : Nat} {z : Str} (hk : c[i]? = some z) : wR rows z ≤ (stL rows D (c.drop (i + 1))).length ∧ (stL rows D (c.drop (i + 1))).length ≤ 6000 ∧ (∀ s ∈ stL rows D (c.drop (i + 1)), s < D.many) := by
  have hil := (List.getElem?_eq_some_iff.mp hk).1
  obtain ⟨m, hm⟩ := Mth.Fst.all (w := wR rows) h.f i (by omega)
  obtain ⟨n, rfl⟩ := hm.pos (w := wR rows) hil
  have hin := Mth.Fst.in (w := wR rows) hm hk
  obtain ⟨g1, g2⟩ := stL_ok R hD _ _ hin.2 fun y hy => h.k y (List.mem_of_mem_drop hy)
  refine ⟨by rw [g1]; omega, ?_, g2⟩
  have := stL_len rows D (c.drop (i + 1))
  have l2 := h.sz
  rw [List.length_drop] at this
  omega
theorem stsL_len (rows : List Row) (D : RdD) (l : List Str) : (stsL rows D l).length = l.length := by
  unfold stsL
  rw [List.length_map, List.length_range]
theorem stsL_zero {rows : List Row} {D : RdD} {l : List Str} (h : 0 < l.length) : (stsL rows D l)[0]? = some ((stL rows D l).headD 0) := by
  unfold stsL
  rw [List.getElem?_map, List.getElem?_range h]
  rfl
def spRowStK (P : Program) (w : World) : Sp := fun vs H Q _ => ∃ (d tS t : Addr) (rows : List Row) (D : RdD) (c : List Str), vs = [.ref d, .ref tS, .ref t] ∧ H d = some (.dK (wL rows)) ∧ ROk 4 rows ∧ D.Ok rows ∧ NdAt P w H tS (D.ent.map rkv) ∧ H t = some (.tup (sV c)) ∧ PlantOk rows c ∧
  ∀ H' t', Same H H' → H' t' = some (.tup (nI (stsL rows D c))) → Q (.ref t') H'
abbrev N_law_row_states : List Str := ["sizes", "steps", "row", "stack", "found", "name", "below", "spot", "state"]
theorem sc_law_row_states : FnScope N_law_row_states ["sizes", "steps", "row"] (defScope s_law_row_states) := ⟨rfl, rfl, rfl, by decide +kernel, rfl, by decide +kernel, by decide +kernel⟩
section
variable {P : Program} {w : World} {K : PySem.W.Frag} {mg : Str → Option Value} {base : Heap}
theorem ok_rowstK (T : Bl mg) (D : Def0 K mg "_law_row_states" s_law_row_states) : DefOk P w K mg base CX0 1 "_law_row_states" (spRowStK P w) := by
  refine D.ok sc_law_row_states (fun vs H Q E h => by obtain ⟨d, tS, t, rows, D, c, rfl, _⟩ := h; rfl) (fun _ _ _ _ _ _ us hl => match us, hl with | [_, _, _], _ => rfl) (fun f cdv A outer s0 H vs Q E hr h => ?_)
  obtain ⟨d, tS, t, rows, D, c, rfl, hd, R, hD, hN, ht, hc, key⟩ := h
  have hu := hu_of hr
  have hu2 := hr.units
  have hu2 : (A.deeper (envOfC "_law_row_states" (defScope s_law_row_states) s0.heap.objs.size f cdv)).units + 2 < cLine := by omega
  refine ⟨_, (pss_cons (ps_set (i := 3) sc_law_row_states.nd rfl (Or.inl rfl) (pe_lst pa_nil))
    (pss_cons (ps_set (i := 4) sc_law_row_states.nd rfl (Or.inl rfl) (pe_lst pa_nil))
    (pss_cons (ps_for PassesOwn.never rfl (pi_tup (pe_revT (pv 2))) (pg_name (i := 5) sc_law_row_states.nd rfl (Or.inl rfl))
      (pss_cons (ps_set (i := 6) sc_law_row_states.nd rfl (Or.inl rfl) (pe_lst pa_nil))
      (pss_cons (ps_for PassesOwn.never rfl (pi_range1 (by rfl) T.b_range (pa_cons (pe_dget hu (pv 0) (pv 5) (fun _ _ => rfl)) pa_nil)) (pg_name (i := 7) sc_law_row_states.nd rfl (Or.inl rfl))
        (pss_one (ps_expr (pe_bm PySem.F.plainAttrs_list PySem.F.slot_list_append PySem.F.type_list_append mt_append (pv 6) (pa_cons (pe_bm0 PySem.F.plainAttrs_list PySem.F.slot_list_pop PySem.F.type_list_pop mt_pop (pv 3)) pa_nil)))))
      (pss_cons (ps_set (i := 8) sc_law_row_states.nd rfl (Or.inl rfl) (pe_nget hu2 (pv 1) (pe_tup (pa_cons (pv 5) (pa_cons (pe_callTy call_tuple_of (by rfl) T.b_tuple (by decide +kernel) (pa_cons (pv 6) pa_nil)) pa_nil))) (fun _ _ => rfl)))
      (pss_cons (ps_expr (pe_bm PySem.F.plainAttrs_list PySem.F.slot_list_append PySem.F.type_list_append mt_append (pv 3) (pa_cons (pv 8) pa_nil)))
      (pss_one (ps_expr (pe_bm PySem.F.plainAttrs_list PySem.F.slot_list_append PySem.F.type_list_append mt_append (pv 4) (pa_cons (pv 8) pa_nil)))))))))
    (pss_one (ps_ret (pe_callTy call_tuple_of (by rfl) T.b_tuple (by decide +kernel) (pa_cons (pe_revL (pv 4)) pa_nil))))))), ?_⟩
  have c2 := hc.sz
  refine ⟨le_line (show 0 ≤ 10000000 by decide), fun L1 hL1 => ?_⟩
  have s1 := (Same.refl H).upd_new (o := .lst []) hL1
  have e1 : (upd H L1 (.lst [])) L1 = some (.lst (nI ((stL rows D (c.drop (c.length - 0))).reverse))) := by
    rw [upd_same, Nat.sub_zero, List.drop_length]
    rfl
  generalize upd H L1 (.lst []) = H1 at s1 e1
  refine ⟨le_line (show 0 ≤ 10000000 by decide), fun L2 hL2 => ?_⟩
  have s2 := s1.upd_new (o := .lst []) hL2
  have n12 : L1 ≠ L2 := ne_of_none e1 hL2
  have e2 : (upd H1 L2 (.lst [])) L1 = some (.lst (nI ((stL rows D (c.drop (c.length - 0))).reverse))) := by rw [upd_ne n12]; exact e1
  have f2 : (upd H1 L2 (.lst [])) L2 = some (.lst (nI ((List.range 0).map fun j => (stL rows D (c.drop (c.length - 1 - j))).headD 0))) := upd_same
  have hL20 := s1.free hL2
  generalize upd H1 L2 (.lst []) = H2 at s2 e2 f2
  refine ⟨_, rfl, t, _, rfl, SqT.of (s2 _ _ ht), fun t3 ht3 => ?_⟩
  have s3 := s2.upd_new (o := .tup (sV c).reverse) ht3
  have g3 : (upd H2 t3 (.tup (sV c).reverse)) t3 = some (.tup (sV c).reverse) := upd_same
  have e3 : (upd H2 t3 (.tup (sV c).reverse)) L1 = some (.lst (nI ((stL rows D (c.drop (c.length - 0))).reverse))) := by rw [upd_ne (ne_of_none e2 ht3)]; exact e2
  have f3 : (upd H2 t3 (.tup (sV c).reverse)) L2 = some (.lst (nI ((List.range 0).map fun j => (stL rows D (c.drop (c.length - 1 - j))).headD 0))) := by rw [upd_ne (ne_of_none f2 ht3)]; exact f2
  generalize upd H2 t3 (.tup (sV c).reverse) = H3 at s3 g3 e3 f3
  have lrev : (sV c).reverse.length = c.length := by rw [List.length_reverse, sV_len]
  refine ⟨t3, rfl, ⟨_, SqT.of g3⟩, for_tup (xs := (sV c).reverse) (fun i σ H' => ∃ (x5 x6 x7 x8 : Option V), σ = [some (.ref d), some (.ref tS), some (.ref t), some (.ref L1), some (.ref L2), x5, x6, x7, x8] ∧ Same H H' ∧ H' t3 = some (.tup (sV c).reverse) ∧ H' L1 = some (.lst (nI ((stL rows D (c.drop (c.length - i))).reverse))) ∧ H' L2 = some (.lst (nI ((List.range i).map fun j => (stL rows D (c.drop (c.length - 1 - j))).headD 0))))
    ⟨none, none, none, none, rfl, s3, g3, e3, f3⟩ (fun i σ H' _ ⟨_, _, _, _, _, _, q, _⟩ => SqT.of q) ?_ ?_⟩
  · rintro i v σ H4 hv ⟨x5, x6, x7, x8, rfl, s4, g4, e4, f4⟩
    have hil : i < c.length := by rw [← lrev]; exact (List.getElem?_eq_some_iff.mp hv).1
    have hci := List.getElem?_eq_getElem (show c.length - 1 - i < c.length by omega)
    have hzn := hc.k _ (List.getElem_mem (show c.length - 1 - i < c.length by omega))
    rw [List.getElem?_reverse (by rw [sV_len]; exact hil), sV_len, sV_at hci] at hv
    cases hv
    obtain ⟨u1, u2, u3⟩ := stL_suf R hD hc hci
    have ed : c.drop (c.length - (i + 1)) = c[c.length - 1 - i] :: c.drop (c.length - 1 - i + 1) := by
      rw [show c.length - (i + 1) = c.length - 1 - i by omega]
      exact List.drop_eq_getElem_cons (by omega)
    have ed2 : c.drop (c.length - i) = c.drop (c.length - 1 - i + 1) := by rw [show c.length - i = c.length - 1 - i + 1 by omega]
    rw [ed2] at e4
    have ef : stL rows D (c.drop (c.length - (i + 1))) = D.stp c[c.length - 1 - i] ((stL rows D (c.drop (c.length - 1 - i + 1))).take (wR rows c[c.length - 1 - i])) :: (stL rows D (c.drop (c.length - 1 - i + 1))).drop (wR rows c[c.length - 1 - i]) := by
      rw [ed, stL_cons]
    have eh : (stL rows D (c.drop (c.length - 1 - i))).headD 0 = D.stp c[c.length - 1 - i] ((stL rows D (c.drop (c.length - 1 - i + 1))).take (wR rows c[c.length - 1 - i])) := by
      rw [List.drop_eq_getElem_cons (show c.length - 1 - i < c.length by omega), stL_cons]
      rfl
    generalize stL rows D (c.drop (c.length - 1 - i + 1)) = st at e4 u1 u2 u3 ef eh
    clear ed hci
    generalize c[c.length - 1 - i] = z at u1 ef eh hzn
    generalize hw : wR rows z = wd at u1 ef eh
    refine ⟨le_line (show 0 ≤ 10000000 by decide), fun B hB => ?_⟩
    have nB1 : L1 ≠ B := ne_of_none e4 hB
    have nB2 : L2 ≠ B := ne_of_none f4 hB
    have s5 := (Same.refl H4).upd_new (o := .lst []) hB
    have b5 : (upd H4 B (.lst [])) B = some (.lst (nI (st.take 0))) := upd_same
    generalize upd H4 B (.lst []) = H5 at s5 b5
    have e5 := s5 _ _ e4
    have gd := DGet.k (k := .inr z) (s5 _ _ (s4 _ _ hd))
    rw [val_wL R hzn, hw] at gd
    have w3 : wd ≤ 3 := by rw [← hw]; exact wR_le R _
    refine ⟨_, rfl, _, rfl, d, _, rfl, gd, _, rfl, by omega, by omega, for_range (n := (((wd : Nat) : Int)).toNat) (fun j σ H' => ∃ (x7 : Option V), σ = [some (.ref d), some (.ref tS), some (.ref t), some (.ref L1), some (.ref L2), some (.str z), some (.ref B), x7, x8] ∧ (∀ p o, H5 p = some o → p ≠ L1 → p ≠ B → H' p = some o) ∧ H' L1 = some (.lst (nI (st.drop j).reverse)) ∧ H' B = some (.lst (nI (st.take j)))) ⟨x7, rfl, fun _ _ h _ _ => h, e5, b5⟩ ?_ ?_⟩
    · rintro j σ H6 hj ⟨y7, rfl, k6, e6, b6⟩
      rw [Int.toNat_natCast] at hj
      have hjl : j < st.length := by omega
      have hst := List.getElem?_eq_getElem hjl
      have er : (st.drop j).reverse = (st.drop (j + 1)).reverse ++ [st[j]] := by rw [List.drop_eq_getElem_cons hjl, List.reverse_cons]
      rw [er, ← nI_snoc] at e6
      generalize st[j] = sj at hst e6 er
      refine ⟨_, rfl, .inl ⟨rfl, _, SqL.of b6⟩, _, rfl, .inl ⟨rfl, _, SqL.of e6⟩, L1, _, _, rfl, rfl, e6, by rw [List.length_append, show ([V.int ((sj : Nat) : Int)] : List V).length = 1 from rfl, Nat.add_sub_cancel, List.getElem?_append_right (Nat.le_refl _), Nat.sub_self]; rfl, ?_⟩
      rw [List.dropLast_concat]
      have b7 : (upd H6 L1 (.lst (nI (st.drop (j + 1)).reverse))) B = some (.lst (nI (st.take j))) := by rw [upd_ne (Ne.symm nB1)]; exact b6
      refine ⟨B, _, _, rfl, rfl, b7, ?_, ?_⟩
      · rw [nI_len, List.length_take]
        exact lt_line (n := min j _) (by omega)
      · refine ⟨_, rfl, fun p o h n1 n2 => by rw [upd_ne n2, upd_ne n1]; exact k6 p o h n1 n2, by rw [upd_ne nB1, upd_same], ?_⟩
        rw [upd_same, take_snoc' hst, nI_snoc]
    rintro σ H6 ⟨y7, rfl, k6, e6, b6⟩
    rw [Int.toNat_natCast] at e6 b6
    -- what is kept
    have hL10 : H L1 = none := hL1
    have kH : ∀ p o, H p = some o → H6 p = some o := fun p o h => k6 p o (s5 _ _ (s4 _ _ h)) (fun e => by rw [e, hL10] at h; cases h) (fun e => by rw [← e, s4 _ _ h] at hB; cases hB)
    have n13 : t3 ≠ L1 := ne_of g4 e4 (fun e => nomatch e)
    have n1B : t3 ≠ B := ne_of_none g4 hB
    have g6 := k6 _ _ (s5 _ _ g4) n13 n1B
    have f6 := k6 _ _ (s5 _ _ f4) (Ne.symm n12) nB2
    refine ⟨_, rfl, _, rfl, _, rfl, B, _, rfl, .inl ⟨SqL.of b6, fun tb htb => ?_⟩⟩
    have s7 := (Same.refl H6).upd_new (o := .tup (nI (st.take wd))) htb
    have t7 : (upd H6 tb (.tup (nI (st.take wd)))) tb = some (.tup (nI (st.take wd))) := upd_same
    generalize upd H6 tb (.tup (nI (st.take wd))) = H7 at s7 t7
    refine ⟨le_line (show 2 ≤ 10000000 by decide), fun pk hpk => ?_⟩
    have s8 := (Same.refl H7).upd_new (o := .tup [.str z, .ref tb]) hpk
    have p8 : (upd H7 pk (.tup [.str z, .ref tb])) pk = some (.tup [.str z, .ref tb]) := upd_same
    generalize upd H7 pk (.tup [.str z, .ref tb]) = H8 at s8 p8
    have s68 := s7.trans s8
    have lt' : (st.take wd).length = wR rows z := by rw [List.length_take, hw]; omega
    have hv := hD.val R hzn lt' fun s hs => u3 s (List.mem_of_mem_take hs)
    have nk : NKAt H8 (nkR (z, st.take wd)) pk := ⟨tb, p8, by
      rw [s8 _ _ t7]
      show _ = some (HO.tup ((tkey (st.take wd)).map kV))
      rw [tkey_V]⟩
    refine ⟨tS, pk, _, _, _, rfl, rfl, hN.sm (fun p o h => s68 _ _ (kH p o h)), nk, hv, ?_⟩
    have e8 := s68 _ _ e6
    have f8 := s68 _ _ f6
    have kH8 : Same H H8 := fun p o h => s68 _ _ (kH p o h)
    have nst : (st.drop wd).length ≤ 6000 := by rw [List.length_drop]; omega
    generalize D.stp z (st.take wd) = v at ef eh
    refine ⟨_, rfl, .inl ⟨rfl, _, SqL.of e8⟩, _, rfl, L1, _, _, rfl, rfl, e8, by rw [nI_len, List.length_reverse]; exact lt_line (by omega), ?_⟩
    have f9 : (upd H8 L1 (.lst (nI (st.drop wd).reverse ++ [.int ((v : Nat) : Int)]))) L2 = some (.lst (nI ((List.range i).map fun j => (stL rows D (c.drop (c.length - 1 - j))).headD 0))) := by rw [upd_ne (Ne.symm n12)]; exact f8
    refine ⟨_, rfl, .inl ⟨rfl, _, SqL.of f9⟩, _, rfl, L2, _, _, rfl, rfl, f9, by rw [nI_len, List.length_map, List.length_range]; exact lt_line (by omega), ?_⟩
    refine ⟨_, _, _, _, rfl, fun p o h => ?_, ?_, ?_, ?_⟩
    · rw [upd_ne (fun e => by rw [e, hL20] at h; cases h), upd_ne (fun e => by rw [e, hL10] at h; cases h)]
      exact kH8 p o h
    · rw [upd_ne (ne_of g4 f4 (fun e => nomatch e)), upd_ne n13]
      exact s68 _ _ g6
    · rw [upd_ne n12, upd_same, ef, List.reverse_cons, nI_snoc]
    · rw [upd_same, List.range_succ, List.map_append]
      show _ = some (HO.lst (nI (_ ++ [(stL rows D (c.drop (c.length - 1 - i))).headD 0])))
      rw [eh, nI_snoc]
  · rintro σ H4 ⟨x5, x6, x7, x8, rfl, s4, g4, e4, f4⟩
    rw [lrev] at f4
    refine ⟨_, rfl, L2, _, rfl, SqL.of f4, fun p hp => ?_⟩
    have s5 := s4.upd_new (o := .lst (nI ((List.range c.length).map fun j => (stL rows D (c.drop (c.length - 1 - j))).headD 0)).reverse) hp
    have p5 : (upd H4 p (.lst (nI ((List.range c.length).map fun j => (stL rows D (c.drop (c.length - 1 - j))).headD 0)).reverse)) p = some (.lst (nI ((List.range c.length).map fun j => (stL rows D (c.drop (c.length - 1 - j))).headD 0)).reverse) := upd_same
    generalize upd H4 p (.lst (nI ((List.range c.length).map fun j => (stL rows D (c.drop (c.length - 1 - j))).headD 0)).reverse) = H5 at s5 p5
    refine ⟨p, _, rfl, .inl ⟨SqL.of p5, fun t' ht' => ?_⟩⟩
    refine key _ t' (s5.upd_new ht') ?_
    rw [upd_same, nI_rev, rev_range c.length (fun i => (stL rows D (c.drop i)).headD 0)]
    rfl
end
end Sh
end
section
set_option Elab.async false
set_option linter.all false
set_option maxRecDepth 100000
set_option maxHeartbeats 16000000
namespace Sh
open PySem PySem.Spec PyProof.Rows L2 NdefX LamX
open C8 (pss_cut tCut)
open Evl (ixN_nat)
def nsP : List V → Prop := fun vs => ∃ i : Int, vs = [.int i]
def RzN (N : Addr) (E : XK) (H : Hp) (i : Int) : Prop := ∀ H' d, Same H H' → H' d = none → E (.ref N) (some d) (upd H' d (.xd (xfs ["state"] [.int i] [])))
/-- a step that may be asked for: what the document says -/
inductive StpX where
  | kind
  | wrong
  | no (i : Int)
  | ok
noncomputable def stpDue (rows : List Row) (D : RdD) (z : Str) (ss : List Int) : StpX := open Classical in if ¬ HasN rows z then .kind else if ss.length ≠ wR rows z then .wrong else match ss.find? (fun s => !decide (InS (D.many : Nat) s)) with
  | some s => .no s
  | none => .ok
def spStep (C CR N : Addr) (A : XA) : Sp := fun vs H Q E => ∃ (u b bt : Addr) (z : Str) (ss : List Int) (rows : List Row) (D : RdD), vs = [.ref u, .str z, .ref bt] ∧ RdAt C CR H u b rows D ∧ ROk 4 rows ∧ D.Ok rows ∧ Kin z ∧ H bt = some (.tup (iV ss)) ∧ ss.length ≤ 100 ∧
  (stpDue rows D z ss = .kind → Rz A E H (.kind z)) ∧ (stpDue rows D z ss = .wrong → Rz A E H (.wrong (wR rows z) ss.length)) ∧ (∀ i, stpDue rows D z ss = .no i → RzN N E H i) ∧ (stpDue rows D z ss = .ok → ∀ H', Same H H' → Q (.int ((D.stp z (ss.map Int.toNat) : Nat) : Int)) H')
def StepOk (P : Program) (w : World) (K : PySem.W.Frag) (mg : Str → Option Value) (base : Heap) (C CR N : Addr) (A : XA) : Prop := ∃ f, Meth K CR "step" f ∧ FnR P w K mg base (L2.CX P w) 3 f (spStep C CR N A)
theorem iV_nat {ss : List Int} (h : ∀ s ∈ ss, 0 ≤ s) : iV ss = nI (ss.map Int.toNat) := by
  unfold iV nI
  rw [List.map_map]
  refine List.map_congr_left fun s hs => ?_
  have := h s hs
  show V.int s = V.int ((s.toNat : Nat) : Int)
  rw [Int.toNat_of_nonneg this]
theorem nm_neg {rows : List Row} {m : Int} (R : ROk m rows) {z : Str} : nmO rows z < 0 ↔ ¬ HasN rows z := by
  rcases nm_case R z with ⟨e, _, _, h⟩ | ⟨e, _, _, h⟩
  · exact ⟨fun _ ⟨q, hq, eq⟩ => h q hq eq, fun _ => by omega⟩
  · exact ⟨fun h' => by omega, fun h' => absurd h h'⟩
/-- what a plant's knots come to, for the reader's own methods -/
def spStsOf (C CR : Addr) (A : XA) : Sp := fun vs H Q E => ∃ (u b t : Addr) (l : List Str) (rows : List Row) (D : RdD), vs = [.ref u, .ref t] ∧ RdAt C CR H u b rows D ∧ ROk 4 rows ∧ D.Ok rows ∧ H t = some (.tup (sV l)) ∧ l.length ≤ 6000 ∧ Way A E H (due rows false l) (∀ H' t', Same H H' → H' t' = some (.tup (nI (stsL rows D l))) → Q (.ref t') H')
def spStOf (C CR : Addr) (A : XA) : Sp := fun vs H Q E => ∃ (u b t : Addr) (l : List Str) (rows : List Row) (D : RdD), vs = [.ref u, .ref t] ∧ RdAt C CR H u b rows D ∧ ROk 4 rows ∧ D.Ok rows ∧ H t = some (.tup (sV l)) ∧ l.length ≤ 6000 ∧ Way A E H (due rows false l) (∀ H', Same H H' → Q (.int (((stL rows D l).headD 0 : Nat) : Int)) H')
def spHas (C CR : Addr) (A : XA) : Sp := fun vs H Q E => ∃ (u b t : Addr) (l : List Str) (rows : List Row) (D : RdD), vs = [.ref u, .ref t] ∧ RdAt C CR H u b rows D ∧ ROk 4 rows ∧ D.Ok rows ∧ H t = some (.tup (sV l)) ∧ l.length ≤ 6000 ∧ Way A E H (due rows false l) (∀ H', Same H H' → Q (.bl (decide ((stL rows D l).headD 0 ∈ D.marks))) H')
def StsOk (P : Program) (w : World) (K : PySem.W.Frag) (mg : Str → Option Value) (base : Heap) (C CR : Addr) (A : XA) : Prop := ∃ f, Meth K CR "states_of" f ∧ FnR P w K mg base (L2.CX P w) 4 f (spStsOf C CR A)
def StOk (P : Program) (w : World) (K : PySem.W.Frag) (mg : Str → Option Value) (base : Heap) (C CR : Addr) (A : XA) : Prop := ∃ f, Meth K CR "state_of" f ∧ FnR P w K mg base (L2.CX P w) 5 f (spStOf C CR A)
def HasOk (P : Program) (w : World) (K : PySem.W.Frag) (mg : Str → Option Value) (base : Heap) (C CR : Addr) (A : XA) : Prop := ∃ f, Meth K CR "__contains__" f ∧ FnR P w K mg base (L2.CX P w) 6 f (spHas C CR A)
theorem lk_none (x : Str) (b d m : Addr) (n o : Nat) (h1 : (x == ("bed" : Str)) = false) (h2 : (x == ("states" : Str)) = false) (h3 : (x == ("cells" : Str)) = false) (h4 : (x == ("marks" : Str)) = false) (h5 : (x == ("otherwise" : Str)) = false) : (rdF b n d m o).lookup x = none := by
  simp [rdF, List.lookup, h1, h2, h3, h4, h5]
abbrev N_Reader_step : List Str := ["self", "kind", "below", "wanted", "state"]
theorem sc_Reader_step : FnScope N_Reader_step ["self", "kind", "below"] (defScope s_Reader_step) := ⟨rfl, rfl, rfl, by decide +kernel, rfl, by decide +kernel, by decide +kernel⟩
abbrev N_Reader_states_of : List Str := ["self", "plant", "found", "waiting", "kind", "below", "_", "state"]
theorem sc_Reader_states_of : FnScope N_Reader_states_of ["self", "plant"] (defScope s_Reader_states_of) := ⟨rfl, rfl, rfl, by decide +kernel, rfl, by decide +kernel, by decide +kernel⟩
abbrev N_Reader_state_of : List Str := ["self", "plant"]
theorem sc_Reader_state_of : FnScope N_Reader_state_of ["self", "plant"] (defScope s_Reader_state_of) := ⟨rfl, rfl, rfl, by decide +kernel, rfl, by decide +kernel, by decide +kernel⟩
abbrev N_Reader_contains__ : List Str := ["self", "plant"]
theorem sc_Reader_contains__ : FnScope N_Reader_contains__ ["self", "plant"] (defScope s_Reader_contains__) := ⟨rfl, rfl, rfl, by decide +kernel, rfl, by decide +kernel, by decide +kernel⟩
section
variable {P : Program} {w : World} {K : PySem.W.Frag} {mg : Str → Option Value} {base : Heap} {C CR N : Addr} {A : XA}
theorem body_step (T : Bk mg) (B : BedT K C) (BR : RdT K CR) (x : XS P w K mg A) (xn : PySem.SupX.SupCls P w K mg "NoState" N ["state"] nsP) (c_branches : BrOk P w K mg base C A) (c_are_states : DefOk P w K mg base CX0 1 "are_states" spAreX) {f0 : Addr} {cdv : Value} {A' : Around} {outer : List Env} {s' : Shared} {H : Hp} {vs : List V} {Q : VK} {E : XK} (hr : Room 2 (A'.deeper (envOfC "Reader.step" (defScope s_Reader_step) s'.heap.objs.size f0 cdv))) (h : spStep C CR N A vs H Q E) :
    ∃ t, PSs (cxOf (L2.CX P w) P w K mg base N_Reader_step "Reader.step" (defScope s_Reader_step) f0 cdv A' outer s' H E) (defBody s_Reader_step) t ∧ t { nx := fun _ H' => Q .non H', rt := Q } (start N_Reader_step vs) H := by
  obtain ⟨u, b, bt, z, ss, rows, D, rfl, hRd, R, hD, hz, hbt, l100, k1, k2, k3, k4⟩ := h
  have hu := hu_of hr
  have r4 := R.len
  have x_WrongBranches := x.xW
  have x_NoState := xn
  obtain ⟨fM, M_branches, F_branches⟩ := c_branches
  refine ⟨_, (pss_cons (ps_set (i := 3) sc_Reader_step.nd rfl (Or.inl rfl) (pe_methR (pe_fld (pv 0) rfl) B.cl M_branches F_branches (hr.mono (by decide)) (passes_call (takes_of rfl rfl rfl rfl) fun _ _ _ _ h => h) (pa_cons (pv 1) pa_nil)))
    (pss_cons (ps_if (pt_cmpR op_ne (pe_callB call_len_seq (by rfl) T.b_len boot_len (pa_cons (pv 2) pa_nil)) (pv 3) (nomark _))
      (pss_one (ps_raiseSup rfl x_WrongBranches hr (takes_of rfl rfl rfl rfl) (pa_cons (pv 3) (pa_cons (pe_callB call_len_seq (by rfl) T.b_len boot_len (pa_cons (pv 2) pa_nil)) pa_nil))))
      pss_nil)
    (pss_cons (ps_for (passes_of rfl) rfl (pi_tup (pv 2)) (pg_name (i := 4) sc_Reader_step.nd rfl (Or.inl rfl))
      (pss_one (ps_if (pt_not (pt_val (pe_d c_are_states (hr.mono (by decide)) pass0 (pa_cons (pe_fld (pv 0) rfl) (pa_cons (pe_tup (pa_cons (pv 4) pa_nil)) pa_nil)))))
        (pss_one (ps_raiseSup rfl x_NoState hr (takes_of rfl rfl rfl rfl) (pa_cons (pv 4) pa_nil)))
        pss_nil)))
    (pss_one (ps_ret (pe_dget2 hu (pe_dget hu (pe_fld (pv 0) rfl) (pv 1) (fun _ _ => rfl)) (pv 2) (pe_fld (pv 0) rfl) ⟨rfl, rfl, rfl, rfl⟩)))))), ?_⟩
  obtain ⟨rx, rd, rm, rds, hr1, hB, hr3, hr4⟩ := id hRd
  obtain ⟨f1, f2, f3, f4, f5⟩ := rd_lk b rd rm D.many D.rest
  obtain ⟨bx, r0, kk, ww, rk, ts, b1, b2, b3, b4, b5, b6⟩ := id hB
  unfold stpDue at k1 k2 k3 k4
  refine ⟨_, rfl, u, CR, rx, _, _, rfl, hr1, BR.cl, BR.nB, f4, b, bx, _, rfl, b1, lk_branches _ _ _ _, _, rfl, b, z, rows, rfl, hB, R.up, hz, fun h => ?_, fun h => ?_⟩
  · rw [if_pos ((nm_neg R).mp h)] at k1
    exact k1 rfl
  have hzn : HasN rows z := Classical.byContradiction fun hn => by have := (nm_neg R).mpr hn; omega
  rw [if_neg (not_not_intro hzn)] at k2 k3 k4
  refine ⟨_, rfl, bt, _, rfl, .inr (SqT.of hbt), _, rfl, rfl, _, rfl, ite2 (fun c => ?_) (fun c => ?_)⟩
  · rw [iV_len] at c
    have hne : ss.length ≠ wR rows z := fun e => by rw [e] at c; simp at c
    rw [if_pos hne] at k2
    exact ⟨_, rfl, _, rfl, bt, _, rfl, .inr (SqT.of hbt), ⟨wR rows z, ss.length, by rw [iV_len], by have := wR_le R z; omega, by omega⟩, rfl, fun d hd => by have := k2 rfl H d (Same.refl H) hd; rw [iV_len]; exact this⟩
  rw [iV_len] at c
  have hl : ss.length = wR rows z := by
    have : ¬ ¬ ((ss.length : Nat) : Int) = ((wR rows z : Nat) : Int) := fun h => c (by simpa using h)
    omega
  rw [if_neg (not_not_intro hl)] at k3 k4
  refine ⟨_, rfl, bt, rfl, ⟨_, SqT.of hbt⟩, for_tup (xs := iV ss) (fun i σ H' => ∃ (x4 : Option V), σ = [some (.ref u), some (.str z), some (.ref bt), some (.int ((wR rows z : Nat) : Int)), x4] ∧ Same H H' ∧ ∀ j s, j < i → ss[j]? = some s → InS (D.many : Nat) s)
    ⟨none, rfl, Same.refl H, fun j s h => absurd h (Nat.not_lt_zero _)⟩ (fun i σ H' _ ⟨_, _, q, _⟩ => SqT.of (q _ _ hbt)) ?_ ?_⟩
  · rintro i v σ H1 hv ⟨x4, rfl, s1, hin⟩
    have hi : i < ss.length := by rw [← iV_len ss]; exact (List.getElem?_eq_some_iff.mp hv).1
    have hs := List.getElem?_eq_getElem hi
    rw [iV_at hs] at hv
    injection hv with hv
    subst hv
    generalize ss[i] = y at hs
    refine ⟨_, rfl, u, CR, rx, _, _, rfl, s1 _ _ hr1, BR.cl, BR.nS, f5, _, rfl, le_line (show 1 ≤ 10000000 by decide), fun v hv => ?_⟩
    have s2 := s1.upd_new (o := .tup [.int y]) hv
    have v2 : (upd H1 v (.tup [.int y])) v = some (.tup (iV [y])) := upd_same
    generalize upd H1 v (.tup [.int y]) = H2 at s2 v2
    refine ⟨_, v, [y], rfl, v2, (show 1 ≤ 1000 by decide), fun H3 bo s3 hbo => ?_⟩
    have s03 := s2.trans s3
    refine ⟨_, rfl, ite2 (fun c3 => ?_) (fun c3 => ?_)⟩
    · have hne : ¬ bo = true := by simpa using c3
      rw [hbo] at hne
      have hno : ¬ InS (D.many : Nat) y := fun h => hne fun z hz => by rw [List.mem_singleton.mp hz]; exact h
      have hf : ss.find? (fun s => !decide (InS (D.many : Nat) s)) = some y := by
        rw [List.find?_eq_some_iff_append]
        refine ⟨by simpa using hno, ss.take i, ss.drop (i + 1), ?_, fun a ha => ?_⟩
        · obtain ⟨l1, e1⟩ := List.getElem?_eq_some_iff.mp hs
          rw [← e1, ← List.drop_eq_getElem_cons l1, List.take_append_drop]
        · obtain ⟨j, hj⟩ := List.mem_iff_getElem?.mp ha
          rw [List.getElem?_take] at hj
          split at hj
          · rename_i hji
            have := hin j a hji hj
            simpa using this
          · cases hj
      rw [hf] at k3
      exact ⟨_, rfl, ⟨y, rfl⟩, rfl, fun d hd => k3 y rfl _ d s03 hd⟩
    · have hyes : InS (D.many : Nat) y := hbo.mp (by simpa using c3) y (List.mem_singleton.mpr rfl)
      refine ⟨_, rfl, s03, fun j s hj hs' => ?_⟩
      by_cases e : j = i
      · subst e
        rw [hs] at hs'
        cases hs'
        exact hyes
      · exact hin j s (by omega) hs'
  · rintro σ H1 ⟨x4, rfl, s1, hin⟩
    rw [iV_len] at hin
    have hall : ∀ s ∈ ss, InS (D.many : Nat) s := fun s hs => by
      obtain ⟨j, hj⟩ := List.mem_iff_getElem?.mp hs
      exact hin j s (List.getElem?_eq_some_iff.mp hj).1 hj
    have hf : ss.find? (fun s => !decide (InS (D.many : Nat) s)) = none := List.find?_eq_none.mpr fun s hs => by simpa using hall s hs
    rw [hf] at k4
    obtain ⟨q, hq, eq1⟩ := id hzn
    obtain ⟨k, hk⟩ := List.mem_iff_getElem?.mp (List.mem_map.mpr ⟨q, hq, eq1⟩ : z ∈ rows.map (·.1))
    have hkl := (List.getElem?_eq_some_iff.mp hk).1
    have hda := List.getElem?_eq_getElem (show k < rds.length by rw [hr3.len]; exact hkl)
    generalize rds[k]'(by rw [hr3.len]; exact hkl) = a at hda
    have ha := hr3.row k z a hk hda
    have gC : DGet H1 rd (.str z) (some (.ref a)) := by
      have := DGet.k (k := .inr z) (s1 _ _ hr3.at_)
      rw [tn_val R.nd hk hda] at this
      exact this
    have gS : ∃ o, DGet H1 a (.ref bt) o ∧ o.getD (.int ((D.rest : Nat) : Int)) = .int ((D.stp z (ss.map Int.toNat) : Nat) : Int) := by
      refine ⟨_, DGet.t (k := tkey (ss.map Int.toNat)) (s1 _ _ ha) (by rw [s1 _ _ hbt, tkey_V, iV_nat fun s hs => (hall s hs).1]), ?_⟩
      rw [cz_val]
      unfold RdD.stp
      cases D.rws.find? (fun e => decide (ek e = (z, ss.map Int.toNat))) with
      | none => rfl
      | some e => rfl
    obtain ⟨o, gS, eo⟩ := gS
    refine ⟨_, rfl, u, CR, rx, _, _, rfl, s1 _ _ hr1, BR.cl, BR.nC, f1, _, rfl, rd, _, rfl, gC, a, rfl, .inr ⟨_, .of (s1 _ _ ha)⟩, _, rfl, _, rfl, u, CR, rx, _, _, rfl, s1 _ _ hr1, BR.cl, BR.nO, f2, o, gS, ?_⟩
    rw [eo]
    exact k4 rfl H1 s1
theorem body_sts (T : Bk mg) (BB : BedT K C) (BR : RdT K CR) (c_check_plant : DefOk P w K mg base (L2.CX P w) 3 "check_plant" (spChk C A false)) {f0 : Addr} {cdv : Value} {A' : Around} {outer : List Env} {s' : Shared} {H : Hp} {vs : List V} {Q : VK} {E : XK} (hr : Room 3 (A'.deeper (envOfC "Reader.states_of" (defScope s_Reader_states_of) s'.heap.objs.size f0 cdv))) (h : spStsOf C CR A vs H Q E) :
    ∃ t, PSs (cxOf (L2.CX P w) P w K mg base N_Reader_states_of "Reader.states_of" (defScope s_Reader_states_of) f0 cdv A' outer s' H E) (defBody s_Reader_states_of) t ∧ t { nx := fun _ H' => Q .non H', rt := Q } (start N_Reader_states_of vs) H := by
  obtain ⟨u, b, t, c, rows, D, rfl, hRd, R, hD, ht, l6, hW⟩ := h
  have hu := hu_of hr
  have r4 := R.len
  refine ⟨_, (pss_cons (ps_expr (pe_d c_check_plant (hr.mono (by decide)) (passes_call (takes_of rfl rfl rfl rfl) fun _ _ _ _ h => h) (pa_cons (pe_fld (pv 0) rfl) (pa_cons (pv 1) pa_nil))))
    (pss_cons (ps_set (i := 2) sc_Reader_states_of.nd rfl (Or.inl rfl) (pe_lst pa_nil))
    (pss_cons (ps_set (i := 3) sc_Reader_states_of.nd rfl (Or.inl rfl) (pe_lst pa_nil))
    (pss_cons (ps_for (passes_of rfl) rfl (pi_tup (pe_revT (pv 1))) (pg_name (i := 4) sc_Reader_states_of.nd rfl (Or.inl rfl))
      (pss_cons (ps_set (i := 5) sc_Reader_states_of.nd rfl (Or.inl rfl) (pe_lst pa_nil))
      (pss_cons (ps_for (passes_of rfl) rfl (pi_range1 (by rfl) T.b_range (pa_cons (pe_dget hu (pe_fld (pe_fld (pv 0) rfl) rfl) (pv 4) (fun _ _ => rfl)) pa_nil)) (pg_name (i := 6) sc_Reader_states_of.nd rfl (Or.inl rfl))
        (pss_one (ps_expr (pe_bm PySem.F.plainAttrs_list PySem.F.slot_list_append PySem.F.type_list_append mt_append (pv 5) (pa_cons (pe_bm0 PySem.F.plainAttrs_list PySem.F.slot_list_pop PySem.F.type_list_pop mt_pop (pv 3)) pa_nil)))))
      (pss_cons (ps_set (i := 7) sc_Reader_states_of.nd rfl (Or.inl rfl) (pe_dget2 hu (pe_dget hu (pe_fld (pv 0) rfl) (pv 4) (fun _ _ => rfl)) (pe_callTy call_tuple_of (by rfl) T.b_tuple (by decide +kernel) (pa_cons (pv 5) pa_nil)) (pe_fld (pv 0) rfl) ⟨rfl, rfl, rfl, rfl⟩))
      (pss_cons (ps_expr (pe_bm PySem.F.plainAttrs_list PySem.F.slot_list_append PySem.F.type_list_append mt_append (pv 3) (pa_cons (pv 7) pa_nil)))
      (pss_one (ps_expr (pe_bm PySem.F.plainAttrs_list PySem.F.slot_list_append PySem.F.type_list_append mt_append (pv 2) (pa_cons (pv 7) pa_nil)))))))))
    (pss_one (ps_ret (pe_callTy call_tuple_of (by rfl) T.b_tuple (by decide +kernel) (pa_cons (pe_revL (pv 2)) pa_nil)))))))), ?_⟩
  obtain ⟨rx, rd, rm, rds, hr1, hB, hr3, hr4⟩ := id hRd
  obtain ⟨lkC, lkO, lkM, lkB, lkS⟩ := rd_lk b rd rm D.many D.rest
  refine ⟨_, rfl, u, CR, rx, _, _, rfl, hr1, BR.cl, BR.nB, lkB, _, rfl, b, t, rows, c, rfl, hB, R.up, .of ht, l6, ?_⟩
  unfold Way at hW ⊢
  cases hdue : due rows false c with
  | some y => rw [hdue] at hW; exact hW
  | none =>
  rw [hdue] at hW
  have key : ∀ H' t', Same H H' → H' t' = some (.tup (nI (stsL rows D c))) → Q (.ref t') H' := hW
  have hc := due_plant R.up hdue
  refine fun H0 sC => ?_
  have hr1 := sC _ _ hr1
  have hr3 := hr3.same sC
  obtain ⟨bx, r0, kk, ww, rk, ts, bb1, bb2, bb3, bb4, bb5, bb6⟩ := hB.same sC
  have ht := sC _ _ ht
  have c2 := hc.sz
  refine ⟨le_line (show 0 ≤ 10000000 by decide), fun L2 hL2 => ?_⟩
  have s1 := (Same.refl H0).upd_new (o := .lst []) hL2
  have f1' : (upd H0 L2 (.lst [])) L2 = some (.lst (nI ((List.range 0).map fun j => (stL rows D (c.drop (c.length - 1 - j))).headD 0))) := upd_same
  have hL20 : H0 L2 = none := hL2
  generalize upd H0 L2 (.lst []) = H1 at s1 f1'
  refine ⟨le_line (show 0 ≤ 10000000 by decide), fun L1 hL1 => ?_⟩
  have s2 := s1.upd_new (o := .lst []) hL1
  have n12 : L1 ≠ L2 := Ne.symm (ne_of_none f1' hL1)
  have e2 : (upd H1 L1 (.lst [])) L1 = some (.lst (nI ((stL rows D (c.drop (c.length - 0))).reverse))) := by
    rw [upd_same, Nat.sub_zero, List.drop_length]
    rfl
  have f2' : (upd H1 L1 (.lst [])) L2 = some (.lst (nI ((List.range 0).map fun j => (stL rows D (c.drop (c.length - 1 - j))).headD 0))) := by rw [upd_ne (Ne.symm n12)]; exact f1'
  have hL1 : H0 L1 = none := s1.free hL1
  generalize upd H1 L1 (.lst []) = H2 at s2 e2 f2'
  refine ⟨_, rfl, t, _, rfl, SqT.of (s2 _ _ ht), fun t3 ht3 => ?_⟩
  have s3 := s2.upd_new (o := .tup (sV c).reverse) ht3
  have g3 : (upd H2 t3 (.tup (sV c).reverse)) t3 = some (.tup (sV c).reverse) := upd_same
  have e3 : (upd H2 t3 (.tup (sV c).reverse)) L1 = some (.lst (nI ((stL rows D (c.drop (c.length - 0))).reverse))) := by rw [upd_ne (ne_of_none e2 ht3)]; exact e2
  have f3 : (upd H2 t3 (.tup (sV c).reverse)) L2 = some (.lst (nI ((List.range 0).map fun j => (stL rows D (c.drop (c.length - 1 - j))).headD 0))) := by rw [upd_ne (ne_of_none f2' ht3)]; exact f2'
  generalize upd H2 t3 (.tup (sV c).reverse) = H3 at s3 g3 e3 f3
  have lrev : (sV c).reverse.length = c.length := by rw [List.length_reverse, sV_len]
  refine ⟨t3, rfl, ⟨_, SqT.of g3⟩, for_tup (xs := (sV c).reverse) (fun i σ H' => ∃ (x5 x6 x7 x8 : Option V), σ = [some (.ref u), some (.ref t), some (.ref L2), some (.ref L1), x5, x6, x7, x8] ∧ Same H0 H' ∧ H' t3 = some (.tup (sV c).reverse) ∧ H' L1 = some (.lst (nI ((stL rows D (c.drop (c.length - i))).reverse))) ∧ H' L2 = some (.lst (nI ((List.range i).map fun j => (stL rows D (c.drop (c.length - 1 - j))).headD 0))))
    ⟨none, none, none, none, rfl, s3, g3, e3, f3⟩ (fun i σ H' _ ⟨_, _, _, _, _, _, q, _⟩ => SqT.of q) ?_ ?_⟩
  · rintro i v σ H4 hv ⟨x5, x6, x7, x8, rfl, s4, g4, e4, f4⟩
    have hil : i < c.length := by rw [← lrev]; exact (List.getElem?_eq_some_iff.mp hv).1
    have hci := List.getElem?_eq_getElem (show c.length - 1 - i < c.length by omega)
    have hzn := hc.k _ (List.getElem_mem (show c.length - 1 - i < c.length by omega))
    rw [List.getElem?_reverse (by rw [sV_len]; exact hil), sV_len, sV_at hci] at hv
    cases hv
    obtain ⟨u1, u2, u3⟩ := stL_suf R hD hc hci
    have ed : c.drop (c.length - (i + 1)) = c[c.length - 1 - i] :: c.drop (c.length - 1 - i + 1) := by
      rw [show c.length - (i + 1) = c.length - 1 - i by omega]
      exact List.drop_eq_getElem_cons (by omega)
    have ed2 : c.drop (c.length - i) = c.drop (c.length - 1 - i + 1) := by rw [show c.length - i = c.length - 1 - i + 1 by omega]
    rw [ed2] at e4
    have ef : stL rows D (c.drop (c.length - (i + 1))) = D.stp c[c.length - 1 - i] ((stL rows D (c.drop (c.length - 1 - i + 1))).take (wR rows c[c.length - 1 - i])) :: (stL rows D (c.drop (c.length - 1 - i + 1))).drop (wR rows c[c.length - 1 - i]) := by
      rw [ed, stL_cons]
    have eh : (stL rows D (c.drop (c.length - 1 - i))).headD 0 = D.stp c[c.length - 1 - i] ((stL rows D (c.drop (c.length - 1 - i + 1))).take (wR rows c[c.length - 1 - i])) := by
      rw [List.drop_eq_getElem_cons (show c.length - 1 - i < c.length by omega), stL_cons]
      rfl
    generalize stL rows D (c.drop (c.length - 1 - i + 1)) = st at e4 u1 u2 u3 ef eh
    clear ed hci
    generalize c[c.length - 1 - i] = z at u1 ef eh hzn
    generalize hw : wR rows z = wd at u1 ef eh
    refine ⟨le_line (show 0 ≤ 10000000 by decide), fun B hB => ?_⟩
    have nB1 : L1 ≠ B := ne_of_none e4 hB
    have nB2 : L2 ≠ B := ne_of_none f4 hB
    have s5 := (Same.refl H4).upd_new (o := .lst []) hB
    have b5 : (upd H4 B (.lst [])) B = some (.lst (nI (st.take 0))) := upd_same
    generalize upd H4 B (.lst []) = H5 at s5 b5
    have e5 := s5 _ _ e4
    have gd := DGet.k (k := .inr z) (s5 _ _ (s4 _ _ bb5))
    rw [val_wL R hzn, hw] at gd
    have w3 : wd ≤ 3 := by rw [← hw]; exact wR_le R _
    refine ⟨_, rfl, u, CR, rx, _, _, rfl, s5 _ _ (s4 _ _ hr1), BR.cl, BR.nB, lkB, b, C, bx, _, _, rfl, s5 _ _ (s4 _ _ bb1), BB.cl, BB.nW, lk_widths _ _ _ _, _, rfl, ww, _, rfl, gd, _, rfl, by omega, by omega, for_range (n := (((wd : Nat) : Int)).toNat) (fun j σ H' => ∃ (x7 : Option V), σ = [some (.ref u), some (.ref t), some (.ref L2), some (.ref L1), some (.str z), some (.ref B), x7, x8] ∧ (∀ p o, H5 p = some o → p ≠ L1 → p ≠ B → H' p = some o) ∧ H' L1 = some (.lst (nI (st.drop j).reverse)) ∧ H' B = some (.lst (nI (st.take j)))) ⟨x7, rfl, fun _ _ h _ _ => h, e5, b5⟩ ?_ ?_⟩
    · rintro j σ H6 hj ⟨y7, rfl, k6, e6, b6⟩
      rw [Int.toNat_natCast] at hj
      have hjl : j < st.length := by omega
      have hst := List.getElem?_eq_getElem hjl
      have er : (st.drop j).reverse = (st.drop (j + 1)).reverse ++ [st[j]] := by rw [List.drop_eq_getElem_cons hjl, List.reverse_cons]
      rw [er, ← nI_snoc] at e6
      generalize st[j] = sj at hst e6 er
      refine ⟨_, rfl, .inl ⟨rfl, _, SqL.of b6⟩, _, rfl, .inl ⟨rfl, _, SqL.of e6⟩, L1, _, _, rfl, rfl, e6, by rw [List.length_append, show ([V.int ((sj : Nat) : Int)] : List V).length = 1 from rfl, Nat.add_sub_cancel, List.getElem?_append_right (Nat.le_refl _), Nat.sub_self]; rfl, ?_⟩
      rw [List.dropLast_concat]
      have b7 : (upd H6 L1 (.lst (nI (st.drop (j + 1)).reverse))) B = some (.lst (nI (st.take j))) := by rw [upd_ne (Ne.symm nB1)]; exact b6
      refine ⟨B, _, _, rfl, rfl, b7, ?_, ?_⟩
      · rw [nI_len, List.length_take]
        exact lt_line (n := min j _) (by omega)
      · refine ⟨_, rfl, fun p o h n1 n2 => by rw [upd_ne n2, upd_ne n1]; exact k6 p o h n1 n2, by rw [upd_ne nB1, upd_same], ?_⟩
        rw [upd_same, take_snoc' hst, nI_snoc]
    rintro σ H6 ⟨y7, rfl, k6, e6, b6⟩
    rw [Int.toNat_natCast] at e6 b6
    -- what is kept
    have hL10 : H0 L1 = none := hL1
    have kH : ∀ p o, H0 p = some o → H6 p = some o := fun p o h => k6 p o (s5 _ _ (s4 _ _ h)) (fun e => by rw [e, hL10] at h; cases h) (fun e => by rw [← e, s4 _ _ h] at hB; cases hB)
    have n13 : t3 ≠ L1 := ne_of g4 e4 (fun e => nomatch e)
    have n1B : t3 ≠ B := ne_of_none g4 hB
    have g6 := k6 _ _ (s5 _ _ g4) n13 n1B
    have f6 := k6 _ _ (s5 _ _ f4) (Ne.symm n12) nB2
    obtain ⟨q, hq, eq1⟩ := id hzn
    obtain ⟨kx, hk⟩ := List.mem_iff_getElem?.mp (List.mem_map.mpr ⟨q, hq, eq1⟩ : z ∈ rows.map (·.1))
    have hkl := (List.getElem?_eq_some_iff.mp hk).1
    have hda := List.getElem?_eq_getElem (show kx < rds.length by rw [hr3.len]; exact hkl)
    generalize rds[kx]'(by rw [hr3.len]; exact hkl) = a at hda
    have ha := hr3.row kx z a hk hda
    have gC : DGet H6 rd (.str z) (some (.ref a)) := by
      have := DGet.k (k := .inr z) (kH _ _ hr3.at_)
      rw [tn_val R.nd hk hda] at this
      exact this
    refine ⟨_, rfl, u, CR, rx, _, _, rfl, kH _ _ hr1, BR.cl, BR.nC, lkC, _, rfl, rd, _, rfl, gC, a, rfl, .inr ⟨_, .of (kH _ _ ha)⟩, _, rfl, B, _, rfl, .inl ⟨SqL.of b6, fun tb htb => ?_⟩⟩
    have s68 := (Same.refl H6).upd_new (o := .tup (nI (st.take wd))) htb
    have t7 : (upd H6 tb (.tup (nI (st.take wd)))) tb = some (.tup (nI (st.take wd))) := upd_same
    generalize upd H6 tb (.tup (nI (st.take wd))) = H8 at s68 t7
    have gS : ∃ o, DGet H8 a (.ref tb) o ∧ o.getD (.int ((D.rest : Nat) : Int)) = .int ((D.stp z (st.take wd) : Nat) : Int) := by
      refine ⟨_, DGet.t (k := tkey (st.take wd)) (s68 _ _ (kH _ _ ha)) (by rw [t7, tkey_V]), ?_⟩
      rw [cz_val]
      unfold RdD.stp
      cases D.rws.find? (fun e => decide (ek e = (z, st.take wd))) with
      | none => rfl
      | some e => rfl
    obtain ⟨o, gS, eo⟩ := gS
    refine ⟨_, rfl, u, CR, rx, _, _, rfl, s68 _ _ (kH _ _ hr1), BR.cl, BR.nO, lkO, o, gS, ?_⟩
    rw [eo]
    have e8 := s68 _ _ e6
    have f8 := s68 _ _ f6
    have kH8 : Same H0 H8 := fun p o h => s68 _ _ (kH p o h)
    have nst : (st.drop wd).length ≤ 6000 := by rw [List.length_drop]; omega
    generalize D.stp z (st.take wd) = v at ef eh
    refine ⟨_, rfl, .inl ⟨rfl, _, SqL.of e8⟩, _, rfl, L1, _, _, rfl, rfl, e8, by rw [nI_len, List.length_reverse]; exact lt_line (by omega), ?_⟩
    have f9 : (upd H8 L1 (.lst (nI (st.drop wd).reverse ++ [.int ((v : Nat) : Int)]))) L2 = some (.lst (nI ((List.range i).map fun j => (stL rows D (c.drop (c.length - 1 - j))).headD 0))) := by rw [upd_ne (Ne.symm n12)]; exact f8
    refine ⟨_, rfl, .inl ⟨rfl, _, SqL.of f9⟩, _, rfl, L2, _, _, rfl, rfl, f9, by rw [nI_len, List.length_map, List.length_range]; exact lt_line (by omega), ?_⟩
    refine ⟨_, _, _, _, rfl, fun p o h => ?_, ?_, ?_, ?_⟩
    · rw [upd_ne (fun e => by rw [e, hL20] at h; cases h), upd_ne (fun e => by rw [e, hL10] at h; cases h)]
      exact kH8 p o h
    · rw [upd_ne (ne_of g4 f4 (fun e => nomatch e)), upd_ne n13]
      exact s68 _ _ g6
    · rw [upd_ne n12, upd_same, ef, List.reverse_cons, nI_snoc]
    · rw [upd_same, List.range_succ, List.map_append]
      show _ = some (HO.lst (nI (_ ++ [(stL rows D (c.drop (c.length - 1 - i))).headD 0])))
      rw [eh, nI_snoc]
  · rintro σ H4 ⟨x5, x6, x7, x8, rfl, s4, g4, e4, f4⟩
    rw [lrev] at f4
    refine ⟨_, rfl, L2, _, rfl, SqL.of f4, fun p hp => ?_⟩
    have s5 := s4.upd_new (o := .lst (nI ((List.range c.length).map fun j => (stL rows D (c.drop (c.length - 1 - j))).headD 0)).reverse) hp
    have p5 : (upd H4 p (.lst (nI ((List.range c.length).map fun j => (stL rows D (c.drop (c.length - 1 - j))).headD 0)).reverse)) p = some (.lst (nI ((List.range c.length).map fun j => (stL rows D (c.drop (c.length - 1 - j))).headD 0)).reverse) := upd_same
    generalize upd H4 p (.lst (nI ((List.range c.length).map fun j => (stL rows D (c.drop (c.length - 1 - j))).headD 0)).reverse) = H5 at s5 p5
    refine ⟨p, _, rfl, .inl ⟨SqL.of p5, fun t' ht' => ?_⟩⟩
    refine key _ t' (sC.trans (s5.upd_new ht')) ?_
    rw [upd_same, nI_rev, rev_range c.length (fun i => (stL rows D (c.drop i)).headD 0)]
    rfl
end
end Sh
end
section
set_option Elab.async false
set_option linter.all false
set_option maxRecDepth 100000
set_option maxHeartbeats 16000000
namespace Sh
open PySem PySem.Spec PyProof.Rows L2 NdefX LamX
open C8 (pss_cut tCut)
open Evl (ixN_nat)
theorem inV_nI (n : Nat) (ms : List Nat) : inV (.int (n : Nat)) (nI ms) = decide (n ∈ ms) := by
  have e : nI ms = (ms.map fun i => ((i : Nat) : Int)).map V.int := by
    unfold nI
    rw [List.map_map]
    rfl
  rw [e, mem_map_ints]
  by_cases c : n ∈ ms
  · rw [decide_eq_true c]
    exact decide_eq_true (List.mem_map.mpr ⟨n, c, rfl⟩)
  · rw [decide_eq_false c]
    refine decide_eq_false fun h => ?_
    obtain ⟨m, hm, e⟩ := List.mem_map.mp h
    exact c (by have : m = n := by omega
                rw [← this]; exact hm)
theorem nI_flat (ms : List Nat) : (nI ms).all flatV = true := by
  rw [List.all_eq_true]
  intro v hv
  obtain ⟨i, _, rfl⟩ := List.mem_map.mp hv
  rfl
section
variable {P : Program} {w : World} {K : PySem.W.Frag} {mg : Str → Option Value} {base : Heap} {C CR N : Addr} {A : XA}
theorem body_stOf (T : Bk mg) (BR : RdT K CR) (c_states_of : StsOk P w K mg base C CR A) {f0 : Addr} {cdv : Value} {A' : Around} {outer : List Env} {s' : Shared} {H : Hp} {vs : List V} {Q : VK} {E : XK} (hr : Room 4 (A'.deeper (envOfC "Reader.state_of" (defScope s_Reader_state_of) s'.heap.objs.size f0 cdv))) (h : spStOf C CR A vs H Q E) :
    ∃ t, PSs (cxOf (L2.CX P w) P w K mg base N_Reader_state_of "Reader.state_of" (defScope s_Reader_state_of) f0 cdv A' outer s' H E) (defBody s_Reader_state_of) t ∧ t { nx := fun _ H' => Q .non H', rt := Q } (start N_Reader_state_of vs) H := by
  obtain ⟨u, b, t, c, rows, D, rfl, hRd, R, hD, ht, l6, hW⟩ := h
  obtain ⟨fM, M_states_of, F_states_of⟩ := c_states_of
  refine ⟨_, (pss_one (ps_ret (pe_ix ix_tup (pe_methR (pv 0) BR.cl M_states_of F_states_of (hr.mono (by decide)) (passes_call (takes_of rfl rfl rfl rfl) fun _ _ _ _ h => h) (pa_cons (pv 1) pa_nil)) pe_int (fun _ _ => rfl)))), ?_⟩
  obtain ⟨rx, rd, rm, rds, hr1, hB, hr3, hr4⟩ := id hRd
  refine ⟨_, rfl, u, rx, _, rfl, hr1, lk_none _ _ _ _ _ _ (by decide +kernel) (by decide +kernel) (by decide +kernel) (by decide +kernel) (by decide +kernel), _, rfl, u, b, t, c, rows, D, rfl, hRd, R, hD, ht, l6, ?_⟩
  unfold Way at hW ⊢
  cases hdue : due rows false c with
  | some y => rw [hdue] at hW; exact hW
  | none =>
    rw [hdue] at hW
    have key : ∀ H', Same H H' → Q (.int (((stL rows D c).headD 0 : Nat) : Int)) H' := hW
    refine fun H1 t' s1 ht' => ?_
    refine ⟨t', _, _, _, rfl, rfl, SqT.of ht', at_ofG (j := 0) rfl (nI_at (stsL_zero (due_plant R.up hdue).pos)), key H1 s1⟩
theorem body_has (T : Bk mg) (BR : RdT K CR) (c_state_of : StOk P w K mg base C CR A) {f0 : Addr} {cdv : Value} {A' : Around} {outer : List Env} {s' : Shared} {H : Hp} {vs : List V} {Q : VK} {E : XK} (hr : Room 5 (A'.deeper (envOfC "Reader.__contains__" (defScope s_Reader_contains__) s'.heap.objs.size f0 cdv))) (h : spHas C CR A vs H Q E) :
    ∃ t, PSs (cxOf (L2.CX P w) P w K mg base N_Reader_contains__ "Reader.__contains__" (defScope s_Reader_contains__) f0 cdv A' outer s' H E) (defBody s_Reader_contains__) t ∧ t { nx := fun _ H' => Q .non H', rt := Q } (start N_Reader_contains__ vs) H := by
  obtain ⟨u, b, t, c, rows, D, rfl, hRd, R, hD, ht, l6, hW⟩ := h
  obtain ⟨fM, M_state_of, F_state_of⟩ := c_state_of
  refine ⟨_, (pss_one (ps_ret (pe_cmpR op_in_seq (pe_methR (pv 0) BR.cl M_state_of F_state_of (hr.mono (by decide)) (passes_call (takes_of rfl rfl rfl rfl) fun _ _ _ _ h => h) (pa_cons (pv 1) pa_nil)) (pe_fld (pv 0) rfl) (by rfl)))), ?_⟩
  obtain ⟨rx, rd, rm, rds, hr1, hB, hr3, hr4⟩ := id hRd
  obtain ⟨lkC, lkO, lkM, lkB, lkS⟩ := rd_lk b rd rm D.many D.rest
  refine ⟨_, rfl, u, rx, _, rfl, hr1, lk_none _ _ _ _ _ _ (by decide +kernel) (by decide +kernel) (by decide +kernel) (by decide +kernel) (by decide +kernel), _, rfl, u, b, t, c, rows, D, rfl, hRd, R, hD, ht, l6, ?_⟩
  unfold Way at hW ⊢
  cases hdue : due rows false c with
  | some y => rw [hdue] at hW; exact hW
  | none =>
    rw [hdue] at hW
    have key : ∀ H', Same H H' → Q (.bl (decide ((stL rows D c).headD 0 ∈ D.marks))) H' := hW
    refine fun H1 s1 => ?_
    refine ⟨_, rfl, u, CR, rx, _, _, rfl, s1 _ _ hr1, BR.cl, BR.nM, lkM, rm, _, rfl, .inr (SqT.of (s1 _ _ hr4)), rfl, nI_flat _, ?_⟩
    rw [inV_nI]
    exact key H1 s1
theorem ok_stepM (T : Bk mg) (B : BedT K C) (BR : RdT K CR) (x : XS P w K mg A) (xn : PySem.SupX.SupCls P w K mg "NoState" N ["state"] nsP) (c_branches : BrOk P w K mg base C A) (c_are_states : DefOk P w K mg base CX0 1 "are_states" spAreX) {f : Addr} {fd : FuncData} (F : FunD K "step" "Reader.step" (defArgs s_Reader_step) (defBody s_Reader_step) (defScope s_Reader_step) [] [] f fd) (M : Meth K CR "step" f) : StepOk P w K mg base C CR N A := by
  have G : FnOk P w K mg base (L2.CX P w) 3 f fd ["self", "kind", "below"] (spStep C CR N A) := F.ok sc_Reader_step (fun vs H Q E h => by obtain ⟨u, b, bt, z, ss, rows, D, rfl, _⟩ := h; rfl) fun cdv A' outer s H vs Q E hr h => body_step T B BR x xn c_branches c_are_states hr h
  exact ⟨f, M, fun A' outer s H us vs Q E hr e0 r hs => G.raw (F.bindsN fun _ _ _ _ _ _ us hl => match us, hl with | [_, _, _], _ => rfl) .nil A' outer s H us vs Q E hr e0 r (by show spStep C CR N A (vs ++ []) H Q E; rw [List.append_nil]; exact hs)⟩
theorem ok_stsM (T : Bk mg) (B : BedT K C) (BR : RdT K CR) (c_check_plant : DefOk P w K mg base (L2.CX P w) 3 "check_plant" (spChk C A false)) {f : Addr} {fd : FuncData} (F : FunD K "states_of" "Reader.states_of" (defArgs s_Reader_states_of) (defBody s_Reader_states_of) (defScope s_Reader_states_of) [] [] f fd) (M : Meth K CR "states_of" f) : StsOk P w K mg base C CR A := by
  have G : FnOk P w K mg base (L2.CX P w) 4 f fd ["self", "plant"] (spStsOf C CR A) := F.ok sc_Reader_states_of (fun vs H Q E h => by obtain ⟨u, b, t, c, rows, D, rfl, _⟩ := h; rfl) fun cdv A' outer s H vs Q E hr h => body_sts T B BR c_check_plant hr h
  exact ⟨f, M, fun A' outer s H us vs Q E hr e0 r hs => G.raw (F.bindsN fun _ _ _ _ _ _ us hl => match us, hl with | [_, _], _ => rfl) .nil A' outer s H us vs Q E hr e0 r (by show spStsOf C CR A (vs ++ []) H Q E; rw [List.append_nil]; exact hs)⟩
theorem ok_stM (T : Bk mg) (BR : RdT K CR) (c_states_of : StsOk P w K mg base C CR A) {f : Addr} {fd : FuncData} (F : FunD K "state_of" "Reader.state_of" (defArgs s_Reader_state_of) (defBody s_Reader_state_of) (defScope s_Reader_state_of) [] [] f fd) (M : Meth K CR "state_of" f) : StOk P w K mg base C CR A := by
  have G : FnOk P w K mg base (L2.CX P w) 5 f fd ["self", "plant"] (spStOf C CR A) := F.ok sc_Reader_state_of (fun vs H Q E h => by obtain ⟨u, b, t, c, rows, D, rfl, _⟩ := h; rfl) fun cdv A' outer s H vs Q E hr h => body_stOf T BR c_states_of hr h
  exact ⟨f, M, fun A' outer s H us vs Q E hr e0 r hs => G.raw (F.bindsN fun _ _ _ _ _ _ us hl => match us, hl with | [_, _], _ => rfl) .nil A' outer s H us vs Q E hr e0 r (by show spStOf C CR A (vs ++ []) H Q E; rw [List.append_nil]; exact hs)⟩
theorem ok_hasM (T : Bk mg) (BR : RdT K CR) (c_state_of : StOk P w K mg base C CR A) {f : Addr} {fd : FuncData} (F : FunD K "__contains__" "Reader.__contains__" (defArgs s_Reader_contains__) (defBody s_Reader_contains__) (defScope s_Reader_contains__) [] [] f fd) (M : Meth K CR "__contains__" f) : HasOk P w K mg base C CR A := by
  have G : FnOk P w K mg base (L2.CX P w) 6 f fd ["self", "plant"] (spHas C CR A) := F.ok sc_Reader_contains__ (fun vs H Q E h => by obtain ⟨u, b, t, c, rows, D, rfl, _⟩ := h; rfl) fun cdv A' outer s H vs Q E hr h => body_has T BR c_state_of hr h
  exact ⟨f, M, fun A' outer s H us vs Q E hr e0 r hs => G.raw (F.bindsN fun _ _ _ _ _ _ us hl => match us, hl with | [_, _], _ => rfl) .nil A' outer s H us vs Q E hr e0 r (by show spHas C CR A (vs ++ []) H Q E; rw [List.append_nil]; exact hs)⟩
theorem ok_rdCX (T : Bl mg) (B : BedT K C) (BR : RdT K CR) {A : XB} (x : XBS P w K mg A) (c_check_states : DefOk P w K mg base (L2.CX P w) 2 "check_states" (spStatesX A)) (c_are_states : DefOk P w K mg base CX0 1 "are_states" spAreX) (c_check_marks : DefOk P w K mg base (L2.CX P w) 2 "check_marks" (spMarksX A)) (c_rows_by_kind : DefOk P w K mg base (L2.CX P w) 2 "rows_by_kind" (spByKindX C A)) (hm : mg "Reader" = some (.ref CR)) {f : Addr} {fd : FuncData} (F : FunD K "__init__" "Reader.__init__" (defArgs s_Reader_init__) (defBody s_Reader_init__) (defScope s_Reader_init__) [] [(("otherwise" : Str), .int 0)] f fd) (M : Mk K CR f) : RdCX P w K mg base C CR A 4 := by
  have G : FnOk P w K mg base (L2.CX P w) 4 f fd ["self", "bed", "states", "rows", "marks", "otherwise"] (spRdIX C CR A) := F.ok sc_Reader_init__ (fun vs H Q E h => by obtain ⟨x, dx, b, tR, tM, us, rows, m, o, xs, ms, rfl, _⟩ := h; rfl) fun cdv A' outer s H vs Q E hr h => body_rdIX T B BR x c_check_states c_are_states c_check_marks c_rows_by_kind hr h
  refine ⟨hm, f, fd, M, G, ⟨fun s us ws _ l1 l2 => ?_, fun r1 r2 => r1.append r2⟩⟩
  obtain ⟨oc, od, dV, kV, doc, pm, an, cdv, ct, osl, rfl, lk, hcd, hD, hK⟩ := F.ex
  rcases hD with ⟨_, rfl⟩ | ⟨e, _⟩
  · match us, ws, l1, l2 with
    | [_, _, _, _, _], [_], _, _ => exact .of_eq rfl
  · exact absurd rfl e
end
end Sh
end
section
set_option Elab.async false
set_option linter.all false
set_option maxRecDepth 100000
set_option maxHeartbeats 16000000
namespace Sh
open PySem PySem.Spec PyProof.Rows L2 NdefX LamX
open C8 (pss_cut tCut)
open Evl (ixN_nat)
def spBox7 (K : PySem.W.Frag) : Sp := fun vs H Q _ => ∃ (s : Addr) (ns : List Int) (k : Nat), vs = [.ref s, .int (k : Nat)] ∧ SqL K H s (ns.map V.int) ∧ (∀ H', Same H H' → SqL K H' s (ns.map V.int)) ∧ ns.length ≤ 63 ∧ k < 10 ∧ ∀ (H' : Hp) (x : Addr), Same H H' → H x = none → BxT H' x → Q (.ref x) H'
def fI (rows : List Row) (l : List Str) : Int := match fault rows false l with
  | some i => ((i : Nat) : Int)
  | none => -1
def spFaultK : Sp := fun vs H Q _ => ∃ (d t : Addr) (rows : List Row) (l : List Str), vs = [.ref d, .ref t] ∧ H d = some (.dK (wL rows)) ∧ ROk 4 rows ∧ H t = some (.tup (sV l)) ∧ l.length ≤ 6000 ∧ Q (.int (fI rows l)) H
def spStranger : Sp := fun vs H Q _ => ∃ (x kd : Addr) (ts : List Addr) (rows : List Row), vs = [.ref x, .ref kd] ∧ BxT H x ∧ H kd = some (.tup (ts.map V.ref)) ∧ TupsAt H ts rows ∧ ROk 4 rows ∧ ∀ H' (z : Str), Kp x H H' → BxT H' x → ¬ HasN rows z → Kin z → Q (.str z) H'
def spPlantK : Sp := fun vs H Q _ => ∃ (x kd : Addr) (m : Nat) (ts : List Addr) (rows : List Row), vs = [.ref x, .ref kd, .int (m : Nat)] ∧ BxT H x ∧ H kd = some (.tup (ts.map V.ref)) ∧ TupsAt H ts rows ∧ ROk 4 rows ∧ 1 ≤ m ∧ m ≤ 1000 ∧ ∀ H' t (l : List Str), Kp x H H' → BxT H' x → H' t = some (.tup (sV l)) → l.length ≤ m → 0 < l.length → Q (.ref t) H'
abbrev N_law_fault : List Str := ["sizes", "row", "need", "place"]
theorem sc_law_fault : FnScope N_law_fault ["sizes", "row"] (defScope s_law_fault) := ⟨rfl, rfl, rfl, by decide +kernel, rfl, by decide +kernel, by decide +kernel⟩
abbrev N_law_stranger : List Str := ["box", "kinds", "name"]
theorem sc_law_stranger : FnScope N_law_stranger ["box", "kinds"] (defScope s_law_stranger) := ⟨rfl, rfl, rfl, by decide +kernel, rfl, by decide +kernel, by decide +kernel⟩
abbrev N_law_plant : List Str := ["box", "kinds", "most", "bare", "row", "need", "turn", "pair"]
theorem sc_law_plant : FnScope N_law_plant ["box", "kinds", "most"] (defScope s_law_plant) := ⟨rfl, rfl, rfl, by decide +kernel, rfl, by decide +kernel, by decide +kernel⟩
section
variable {P : Program} {w : World} {K : PySem.W.Frag} {mg : Str → Option Value} {base : Heap}
theorem ok_box7 (T : Bl mg) (b_sum : mg "sum" = none) (D : Def0 K mg "_law_box" s_law_box) : DefOk P w K mg base CX0 1 "_law_box" (spBox7 K) := by
  refine D.ok sc_law_box (fun vs H Q E h => ?_) (fun _ _ _ _ _ _ us hl => match us, hl with | [_, _], _ => rfl) (fun f cdv A outer s' H vs Q E hr h => ?_)
  · obtain ⟨s, ns, k, rfl, _⟩ := h
    rfl
  · obtain ⟨s, ns, k, rfl, hs, hS, hl, k3, key⟩ := h
    have ls : (ns.map V.int).length = ns.length := List.length_map ..
    refine ⟨_, (pss_cons (ps_if (pt_cmpR op_lt (pv 1) (pe_callB call_len_seq (by rfl) T.b_len boot_len (pa_cons (pv 0) pa_nil)) (nomark _))
        (pss_one (ps_ret (pe_lst (pa_cons (pe_callTy call_int1 (by rfl) T.b_int (by decide +kernel) (pa_cons (pe_ix ix_list (pv 0) (pv 1) (fun _ _ => rfl)) pa_nil)) (pa_cons pe_int (pa_cons (pv 1) pa_nil))))))
        pss_nil)
      (pss_one (ps_ret (pe_lst (pa_cons (pe_op op_add (pe_op op_mul (pe_op op_mod (pe_callTy call_int1 (by rfl) T.b_int (by decide +kernel) (pa_cons (pe_callB (cr_sum rfl) (by rfl) b_sum (by decide +kernel) (pa_cons (pv 0) pa_nil)) pa_nil)) pe_int) pe_int) (pv 1)) (pa_cons pe_int (pa_cons (pv 1) pa_nil))))))), ?_⟩
    refine ⟨_, rfl, _, rfl, s, _, rfl, .inl hs, _, _, rfl, rfl, _, rfl, ?_⟩
    rw [ls]
    by_cases c : k < ns.length
    · refine ifp (decide_eq_true (by omega)) ?_
      refine ⟨_, rfl, _, rfl, s, _, _, _, rfl, rfl, hs, at_ofG (j := k) rfl (by rw [List.getElem?_map, List.getElem?_eq_getElem c]; rfl), .inl ⟨_, rfl, ?_⟩⟩
      refine ⟨_, rfl, le_line (show 3 ≤ 10000000 by decide), fun x hx => ?_⟩
      exact key _ x ((Same.refl H).upd_new hx) hx ⟨_, _, _, upd_same⟩
    refine ifn (fun h => c (by have := of_decide_eq_true h; omega)) ?_
    refine ⟨_, rfl, s, ns, rfl, hs, .inl ⟨_, rfl, ?_⟩⟩
    refine ⟨_, _, rfl, rfl, by show (0 : Int) < 1000003; decide, _, _, rfl, rfl, .inr ⟨by decide, by decide⟩, _, rfl, _, _, rfl, rfl, _, rfl, le_line (show 3 ≤ 10000000 by decide), fun x hx => ?_⟩
    exact key _ x ((Same.refl H).upd_new hx) hx ⟨_, _, _, upd_same⟩
theorem wO_has {rows : List Row} {m : Int} (R : ROk m rows) {z : Str} (h : HasN rows z) : wO rows false z = some (wR rows z) := by
  unfold wO
  rw [if_neg (fun e => absurd e.1 (by decide)), if_neg fun c => (nm_neg R).mp c h]
theorem wO_not {rows : List Row} {m : Int} (R : ROk m rows) {z : Str} (h : ¬ HasN rows z) : wO rows false z = none := by
  unfold wO
  rw [if_neg (fun e => absurd e.1 (by decide)), if_pos ((nm_neg R).mpr h)]
theorem ok_faultK (T : Bl mg) (D : Def0 K mg "_law_fault" s_law_fault) : DefOk P w K mg base CX0 1 "_law_fault" spFaultK := by
  refine D.ok sc_law_fault (fun vs H Q E h => by obtain ⟨d, t, rows, l, rfl, _⟩ := h; rfl) (fun _ _ _ _ _ _ us hl => match us, hl with | [_, _], _ => rfl) (fun f cdv A outer s H vs Q E hr h => ?_)
  obtain ⟨d, t, rows, l, rfl, hd, R, ht, l6, key⟩ := h
  have hu := hu_of hr
  refine ⟨_, (pss_cons (ps_set (i := 2) sc_law_fault.nd rfl (Or.inl rfl) pe_int)
    (pss_cons (ps_for PassesOwn.never rfl (pi_range1 (by rfl) T.b_range (pa_cons (pe_callB call_len_seq (by rfl) T.b_len boot_len (pa_cons (pv 1) pa_nil)) pa_nil)) (pg_name (i := 3) sc_law_fault.nd rfl (Or.inl rfl))
      (pss_cons (ps_if (PW.pt (pw_or (pt_cmpR op_eq (pv 2) pe_int (nomark _)) (pw_or1 (pt_cmp (pc_dnotin hu (pe_ix ix_tup (pv 1) (pv 3) (fun _ _ => rfl)) (pv 0))))))
        (pss_one (ps_ret (pv 3)))
        pss_nil)
      (pss_one (ps_set (i := 2) sc_law_fault.nd rfl (Or.inl rfl) (pe_op op_add (pe_op op_sub (pv 2) pe_int) (pe_dget hu (pv 0) (pe_ix ix_tup (pv 1) (pv 3) (fun _ _ => rfl)) (fun _ _ => rfl)))))))
    (pss_cons (ps_if (pt_cmpR op_gt (pv 2) pe_int (nomark _))
      (pss_one (ps_ret (pe_callB call_len_seq (by rfl) T.b_len boot_len (pa_cons (pv 1) pa_nil))))
      pss_nil)
    (pss_one (ps_ret (pe_un un_neg pe_int)))))), ?_⟩
  refine ⟨_, rfl, t, _, rfl, .inr (SqT.of ht), _, rfl, by rw [sV_len]; omega, by rw [sV_len]; omega, for_range (n := (((sV l).length : Nat) : Int).toNat) (fun i σ H' => ∃ (x3 : Option V) (m : Nat), σ = [some (.ref d), some (.ref t), some (.int ((m : Nat) : Int)), x3] ∧ H' = H ∧ fl (wO rows false) (l.drop i) m i = fault rows false l) ⟨none, 1, rfl, rfl, rfl⟩ ?_ ?_⟩
  · rintro i σ H1 hi ⟨x3, m, rfl, rfl, hm⟩
    rw [Int.toNat_natCast, sV_len] at hi
    have hci := List.getElem?_eq_getElem hi
    have hx := sV_at hci
    rw [List.drop_eq_getElem_cons hi] at hm
    generalize l[i] = z at hx hm
    have e0 : (0 : Int) + ((i : Nat) : Int) = ((i : Nat) : Int) := by omega
    have done : some i = fault rows false l → Q (.int (0 + ((i : Nat) : Int))) H1 := fun e => by
      unfold fI at key
      rw [← e] at key
      rw [e0]
      exact key
    have gd := DGet.k (k := .inr z) hd
    refine ⟨_, rfl, rfl, _, rfl, ite2 (fun c => ?_) (fun c => ?_)⟩
    · have m0 : m = 0 := by have := of_decide_eq_true c; injection this with e; omega
      subst m0
      exact ⟨_, rfl, done hm⟩
    obtain ⟨m', rfl⟩ : ∃ m', m = m' + 1 := ⟨m - 1, by
      have : m ≠ 0 := fun q => c (by rw [q]; exact decide_eq_true rfl)
      omega⟩
    have hm : (match wO rows false z with | none => some i | some k => fl (wO rows false) (l.drop (i + 1)) (m' + k) (i + 1)) = fault rows false l := hm
    by_cases hz : HasN rows z
    · rw [wO_has R hz] at hm
      rw [val_wL R hz] at gd
      refine ⟨_, rfl, _, rfl, t, _, _, _, rfl, rfl, SqT.of ht, at_ofG (j := i) (by omega) hx, _, rfl, d, _, rfl, gd, _, rfl, ifn (by simp) ?_⟩
      refine ⟨_, rfl, _, _, rfl, rfl, _, rfl, _, rfl, _, rfl, t, _, _, _, rfl, rfl, SqT.of ht, at_ofG (j := i) (by omega) hx, d, _, rfl, gd, _, _, rfl, rfl, ?_⟩
      refine ⟨some (.int (0 + ((i : Nat) : Int))), m' + wR rows z, ?_, rfl, hm⟩
      show [_, _, some (V.int (((m' + 1 : Nat) : Int) - 1 + ((wR rows z : Nat) : Int))), _] = _
      rw [show ((m' + 1 : Nat) : Int) - 1 + ((wR rows z : Nat) : Int) = ((m' + wR rows z : Nat) : Int) by omega]
    · rw [wO_not R hz] at hm
      rw [nd_inr R hz] at gd
      refine ⟨_, rfl, _, rfl, t, _, _, _, rfl, rfl, SqT.of ht, at_ofG (j := i) (by omega) hx, _, rfl, d, _, rfl, gd, _, rfl, ifp (by rfl) ?_⟩
      exact ⟨_, rfl, done hm⟩
  · rintro σ H1 ⟨x3, m, rfl, rfl, hm⟩
    rw [Int.toNat_natCast, sV_len, List.drop_length] at hm
    unfold fI at key
    rw [← hm] at key
    refine ⟨_, rfl, _, _, rfl, rfl, _, rfl, ite2 (fun c => ?_) (fun c => ?_)⟩
    · obtain ⟨m', rfl⟩ : ∃ m', m = m' + 1 := ⟨m - 1, by have := of_decide_eq_true c; omega⟩
      refine ⟨_, rfl, t, _, rfl, .inr (SqT.of ht), ?_⟩
      rw [sV_len]
      exact key
    · have m0 : m = 0 := by
        have : ¬ (0 : Int) < ((m : Nat) : Int) := fun h => c (decide_eq_true h)
        omega
      subst m0
      exact ⟨_, rfl, key⟩
theorem app_len59 (x y : Str) : (x ++ y).length = x.length + y.length := by
  show (x ++ y).cps.size = x.cps.size + y.cps.size
  rw [← Array.length_toList]
  show (TL.tl (x ++ y)).length = _
  rw [TL.tl_append, List.length_append]
  show x.cps.toList.length + y.cps.toList.length = _
  rw [Array.length_toList, Array.length_toList]
theorem cut59 {z : Str} (h : 9 ≤ z.length) : (cutS z none (some 9)).cps.size = 9 ∧ ∀ c ∈ (cutS z none (some 9)).cps.toList, c ∈ z.cps.toList := by
  have e : (cutS z none (some 9)).cps.toList = z.cps.toList.take 9 := by
    unfold cutS HT.sIx
    show List.take ((if (9 : Int) < 0 then _ else min (9 : Int).toNat z.length) - 0) (List.drop 0 z.cps.toList) = _
    rw [if_neg (by decide), List.drop_zero]
    congr 1
    show min 9 z.length - 0 = 9
    omega
  refine ⟨?_, fun c hc => ?_⟩
  · rw [← Array.length_toList, e, List.length_take, Array.length_toList]
    show min 9 z.length = 9
    omega
  · rw [e] at hc
    exact List.mem_of_mem_take hc
theorem up59 {z : Str} (h : IsNm z) : (∀ c ∈ (Txt.upper z).cps.toList, c < 128) ∧ ¬ IsNm (Txt.upper z) := by
  have e : (Txt.upper z).cps.toList = z.cps.toList.map PyProof.Rows.up1 := by
    rw [PyProof.Rows.upper_ascii (x := z) fun c hc => by have := h.2.2 c hc; omega]
    show (z.cps.map PyProof.Rows.up1).toList = _
    rw [Array.toList_map]
  have f : ∀ c ∈ (Txt.upper z).cps.toList, c < 97 := fun c hc => by
    rw [e] at hc
    obtain ⟨d, h1, rfl⟩ := List.mem_map.mp hc
    have := h.2.2 d h1
    unfold PyProof.Rows.up1
    split <;> omega
  refine ⟨fun c hc => by have := f c hc; omega, fun hn => ?_⟩
  have h1 := hn.1
  rw [← Array.length_toList] at h1
  obtain ⟨c, r, ec⟩ := List.exists_cons_of_length_pos (l := (Txt.upper z).cps.toList) (by omega)
  have hc : c ∈ (Txt.upper z).cps.toList := by rw [ec]; exact List.mem_cons_self
  have := f c hc
  have := hn.2.2 c hc
  omega
theorem not_has {rows : List Row} {m : Int} (R : ROk m rows) {z : Str} (h : ¬ IsNm z) : ¬ HasN rows z := fun ⟨q, hq, e⟩ => h (e ▸ R.nm q hq)
theorem ok_stranger (T : Bl mg) (c_law_take : DefOk P w K mg base CX0 1 "_law_take" spTake) (D : Def0 K mg "_law_stranger" s_law_stranger) : DefOk P w K mg base CX0 2 "_law_stranger" spStranger := by
  refine D.ok sc_law_stranger (fun vs H Q E h => by obtain ⟨x, kd, ts, rows, rfl, _⟩ := h; rfl) (fun _ _ _ _ _ _ us hl => match us, hl with | [_, _], _ => rfl) (fun f cdv A outer s H vs Q E hr h => ?_)
  obtain ⟨x, kd, ts, rows, rfl, hx, hk, hT, R, key⟩ := h
  have r1 := R.pos
  have r4 := R.len
  have nkx := hx.ne_tup hk
  have lts : (ts.map V.ref).length = rows.length := by rw [List.length_map, hT.1]
  refine ⟨_, (pss_cons (ps_set (i := 2) sc_law_stranger.nd rfl (Or.inl rfl) (pe_ix ix_tup (pe_ix ix_tup (pv 1) (pe_d c_law_take (hr.mono (by decide)) pass0 (pa_cons (pv 0) (pa_cons (pe_callB call_len_seq (by rfl) T.b_len boot_len (pa_cons (pv 1) pa_nil)) pa_nil))) (fun _ _ => rfl)) pe_int (fun _ _ => rfl)))
    (pss_one (ps_ret (pe_ix ix_list (pe_lst (pa_cons pe_str (pa_cons pe_str (pa_cons (pe_slice sl_str (pe_op op_add_str (pv 2) pe_str) po_none (po_some pe_int)) (pa_cons (pe_bm0 PySem.F.plainAttrs_str PySem.F.slot_str_upper PySem.F.type_str_upper mt_upper (pv 2)) pa_nil))))) (pe_d c_law_take (hr.mono (by decide)) pass0 (pa_cons (pv 0) (pa_cons pe_int pa_nil))) (fun _ _ => rfl))))), ?_⟩
  refine ⟨_, rfl, _, rfl, _, rfl, kd, _, rfl, .inr (SqT.of hk), x, _, rfl, hx, by rw [lts]; omega, by rw [lts]; omega, fun H1 d k1 b1 d1 => ?_⟩
  rw [lts] at d1
  have hd : d < rows.length := by omega
  obtain ⟨t, t1, t2, t3⟩ := (hT.keep (hx.tk k1)).at hd
  refine ⟨kd, _, _, _, rfl, rfl, SqT.of (k1 _ _ hk nkx), at_ofG (j := d) rfl t2, t, _, _, _, rfl, rfl, SqT.of t3, atI_nat (j := 0) rfl, ?_⟩
  have hnm := R.nm _ (List.getElem_mem hd)
  generalize (rows[d]).1 = z at hnm
  have hz : z.length ≤ 8 := hnm.2.1
  have hz1 : 1 ≤ z.length := hnm.1
  have l9 : ("aaaaaaaaa" : Str).length = 9 := by decide +kernel
  have hch : ∀ c ∈ (z ++ ("aaaaaaaaa" : Str)).cps.toList, c < 16 ^ 8 := fun c hc => by
    rw [app_tl] at hc
    refine Nat.lt_of_lt_of_le ?_ (show 128 ≤ 16 ^ 8 by decide)
    rcases List.mem_append.mp hc with q | q
    · have := hnm.2.2 c q
      omega
    · have e : ("aaaaaaaaa" : Str).cps.toList = [97, 97, 97, 97, 97, 97, 97, 97, 97] := by decide +kernel
      rw [e] at q
      simp at q
      omega
  obtain ⟨c1, c2⟩ := cut59 (z := z ++ ("aaaaaaaaa" : Str)) (by rw [app_len59]; omega)
  obtain ⟨u1, u2⟩ := up59 hnm
  have lu : (Txt.upper z).length ≤ 100 := by have := len_upper z; omega
  refine ⟨_, rfl, _, _, rfl, rfl, le_line (by omega), _, rfl, _, rfl, le_line (by rw [app_len59]; omega), _, rfl, rfl, z, rfl, rfl, by omega, le_line (show 4 ≤ 10000000 by decide), fun L hL => ?_⟩
  have nL : L ≠ x := b1.ne hL
  have sL := (Same.refl H1).upd_new (o := .lst [.str "", .str "*", .str (cutS (z ++ ("aaaaaaaaa" : Str)) none (some 9)), .str (Txt.upper z)]) hL
  refine ⟨_, rfl, x, 4, rfl, b1.new hL, by decide, by decide, fun H2 d2 k2 b2 hd2 => ?_⟩
  have pick : ∃ y : Str, ([.str "", .str "*", .str (cutS (z ++ ("aaaaaaaaa" : Str)) none (some 9)), .str (Txt.upper z)] : List V)[d2]? = some (.str y) ∧ ¬ IsNm y ∧ Kin y := by
    have hh : ∀ j, j < 4 → ∃ y : Str, ([.str "", .str "*", .str (cutS (z ++ ("aaaaaaaaa" : Str)) none (some 9)), .str (Txt.upper z)] : List V)[j]? = some (.str y) ∧ ¬ IsNm y ∧ Kin y := by
      intro j hj
      match j, hj with
      | 0, _ => exact ⟨_, rfl, fun h => absurd h.1 (by decide +kernel), by decide +kernel, by decide +kernel⟩
      | 1, _ => exact ⟨_, rfl, fun h => absurd (h.2.2 42 (by decide +kernel)) (by decide), by decide +kernel, by decide +kernel⟩
      | 2, _ => exact ⟨_, rfl, fun h => by have := h.2.1; omega, by show (cutS _ _ _).cps.size ≤ 100; omega, fun c hc => hch c (c2 c hc)⟩
      | 3, _ => exact ⟨_, rfl, u2, lu, fun c hc => Nat.lt_of_lt_of_le (u1 c hc) (by decide)⟩
      | n + 4, h => exact absurd h (by omega)
    exact hh _ (by omega)
  obtain ⟨y, hy, hn, hK⟩ := pick
  exact ⟨L, _, _, _, rfl, rfl, SqL.of (k2 _ _ upd_same nL), at_ofG (j := d2) rfl hy, key H2 y ((k1.trans (Kp.same sL)).trans k2) b2 (not_has R hn) hK⟩
def p0 (q : Row) : Bool := decide (q.2 = 0)
theorem ok_plantK (T : Bl mg) (c_law_take : DefOk P w K mg base CX0 1 "_law_take" spTake) (D : Def0 K mg "_law_plant" s_law_plant) : DefOk P w K mg base CX0 2 "_law_plant" spPlantK := by
  refine D.ok sc_law_plant (fun vs H Q E h => by obtain ⟨x, kd, m, ts, rows, rfl, _⟩ := h; rfl) (fun _ _ _ _ _ _ us hl => match us, hl with | [_, _, _], _ => rfl) (fun f cdv A outer s H vs Q E hr h => ?_)
  obtain ⟨x, kd, m, ts, rows, rfl, hx, hk, hT, R, m1, m9, key⟩ := h
  have r1 := R.pos
  have r4 := R.len
  have nkx := hx.ne_tup hk
  have lts : (ts.map V.ref).length = rows.length := by rw [List.length_map, hT.1]
  refine ⟨_, (pss_cons (ps_setLc (i := 3) (own := [("pair", 7)]) (g := (gName 7)) rfl sc_law_plant.nd rfl rfl (sw_true rfl rfl rfl (by decide +kernel)) (pi_tup (pv 1)) (blkOk_by (N := N_law_plant) (sc := defScope s_law_plant) (by decide +kernel)) (fun _ _ _ _ _ => (pg_name (i := 7) sc_law_plant.nd rfl (Or.inl rfl))) (fun _ _ _ _ _ => (pts_one (pt_cmpR op_eq (pe_ix (show IxR _ (rIxT K) from ix_tup) (pv 7) pe_int (fun _ _ => rfl)) pe_int (nomark _)))) (fun _ _ _ _ _ => (pe_ix (show IxR _ (rIxT K) from ix_tup) (pv 7) pe_int (fun _ _ => rfl))))
    (pss_cons (ps_set (i := 4) sc_law_plant.nd rfl (Or.inl rfl) (pe_lst pa_nil))
    (pss_cons (ps_set (i := 5) sc_law_plant.nd rfl (Or.inl rfl) pe_int)
    (pss_cons (ps_for PassesOwn.never rfl (pi_range1 (by rfl) T.b_range (pa_cons (pv 2) pa_nil)) (pg_name (i := 6) sc_law_plant.nd rfl (Or.inl rfl))
      (pss_cons (ps_if (pt_cmpR op_eq (pv 5) pe_int (nomark _))
        (pss_one ps_break)
        pss_nil)
      (pss_cons (ps_set (i := 7) sc_law_plant.nd rfl (Or.inl rfl) (pe_ix ix_tup (pv 1) (pe_d c_law_take (hr.mono (by decide)) pass0 (pa_cons (pv 0) (pa_cons (pe_callB call_len_seq (by rfl) T.b_len boot_len (pa_cons (pv 1) pa_nil)) pa_nil))) (fun _ _ => rfl)))
      (pss_cut (ps_if (pt_cmpR op_gt (pe_op op_add (pe_op op_add (pe_callB call_len_seq (by rfl) T.b_len boot_len (pa_cons (pv 4) pa_nil)) (pv 5)) (pe_ix ix_tup (pv 7) pe_int (fun _ _ => rfl))) (pv 2) (nomark _))
        (pss_one (ps_set (i := 7) sc_law_plant.nd rfl (Or.inl rfl) (pe_tup (pa_cons (pe_ix ix_list (pv 3) (pe_d c_law_take (hr.mono (by decide)) pass0 (pa_cons (pv 0) (pa_cons (pe_callB call_len_seq (by rfl) T.b_len boot_len (pa_cons (pv 3) pa_nil)) pa_nil))) (fun _ _ => rfl)) (pa_cons pe_int pa_nil)))))
        pss_nil)
      (pss_cons (ps_expr (pe_bm PySem.F.plainAttrs_list PySem.F.slot_list_append PySem.F.type_list_append mt_append (pv 4) (pa_cons (pe_ix ix_tup (pv 7) pe_int (fun _ _ => rfl)) pa_nil)))
      (pss_one (ps_set (i := 5) sc_law_plant.nd rfl (Or.inl rfl) (pe_op op_add (pe_op op_sub (pv 5) pe_int) (pe_ix ix_tup (pv 7) pe_int (fun _ _ => rfl))))))))))
    (pss_one (ps_ret (pe_callTy call_tuple_of (by rfl) T.b_tuple (by decide +kernel) (pa_cons (pv 4) pa_nil)))))))), ?_⟩
  refine ⟨_, rfl, kd, rfl, ⟨_, SqT.of hk⟩, fun D1 hD1 => lc_it (walk_tup (xs := ts.map V.ref)) (fun i H' => Same H H' ∧ H' D1 = some (.lst (((rows.take i).filter p0).map fun q => V.str q.1))) ⟨(Same.refl H).upd_new hD1, upd_same⟩ (fun i H' _ ⟨q, _⟩ => SqT.of (q _ _ hk)) ?_ ?_⟩
  · rintro i v H1' H1 hi ⟨s1, d1⟩ ⟨rfl, hv⟩
    obtain ⟨t, ht, rfl⟩ := get_map_r hv
    have hir : i < rows.length := by rw [← lts]; exact hi
    have hq := List.getElem?_eq_getElem hir
    have h1 := s1 _ _ (hT.2 i t rows[i] ht hq)
    refine ⟨rfl, _, rfl, t, _, _, _, rfl, rfl, SqT.of h1, atI_nat (j := 1) rfl, rfl, _, rfl, ite2 (fun c => ?_) (fun c => ⟨s1, ?_⟩)⟩
    · have hP : p0 rows[i] = true := decide_eq_true (by have := of_decide_eq_true c; injection this)
      refine ⟨_, rfl, t, _, _, _, rfl, rfl, SqT.of h1, atI_nat (j := 0) rfl, _, d1, ?_, s1.upd_own hD1, ?_⟩
      · rw [List.length_map]
        have := List.length_filter_le p0 (rows.take i)
        rw [List.length_take] at this
        exact lt_line (by omega)
      · rw [upd_same, take_snoc' hq, List.filter_append, List.filter_cons_of_pos hP, List.map_append]
        rfl
    · have hP : ¬ p0 rows[i] = true := fun h => c (decide_eq_true (by rw [show (rows[i]).2 = 0 from of_decide_eq_true h]))
      rw [take_snoc' hq, List.filter_append, List.filter_cons_of_neg hP, List.filter_nil, List.append_nil]
      exact d1
  rintro H1 ⟨s1, d1⟩
  rw [lts, List.take_length] at d1
  have tpos : 1 ≤ (rows.filter p0).length := by
    obtain ⟨q, h1, h2⟩ := R.leaf
    have : q ∈ rows.filter p0 := List.mem_filter.mpr ⟨h1, decide_eq_true h2⟩
    exact List.length_pos_of_mem this
  have tle := List.length_filter_le p0 rows
  have b1 := hx.same s1
  have n1x : D1 ≠ x := hx.ne hD1
  refine ⟨le_line (show 0 ≤ 10000000 by decide), fun l hl => ?_⟩
  have s2 := s1.upd_new (o := .lst []) hl
  have nlx : l ≠ x := b1.ne hl
  have nDl : D1 ≠ l := ne_of_none d1 hl
  have l2 : (upd H1 l (.lst [])) l = some (.lst (([] : List Str).map V.str)) := upd_same
  have d2 : (upd H1 l (.lst [])) D1 = some (.lst ((rows.filter p0).map fun q => V.str q.1)) := by rw [upd_ne nDl]; exact d1
  have b2 : BxT (upd H1 l (.lst [])) x := b1.new hl
  have hl0 : H l = none := s1.free hl
  generalize upd H1 l (.lst []) = H2 at s2 l2 d2 b2
  refine ⟨_, rfl, _, rfl, by omega, by omega, ?_⟩
  rw [Int.toNat_natCast]
  refine for_range (n := m) (fun i σ H' => ∃ (g : Int) (x6 x7 : Option V) (ws : List Str), σ = [some (.ref x), some (.ref kd), some (.int (m : Nat)), some (.ref D1), some (.ref l), some (.int g), x6, x7] ∧ Kp x H H' ∧ BxT H' x ∧ H' l = some (.lst (ws.map V.str)) ∧ H' D1 = some (.lst ((rows.filter p0).map fun q => V.str q.1)) ∧ ws.length ≤ i ∧ (i = 0 → g = 1) ∧ (0 < i → 0 < ws.length))
    ⟨1, none, none, [], rfl, Kp.same s2, b2, l2, d2, Nat.le_refl _, fun _ => rfl, fun h => absurd h (Nat.lt_irrefl _)⟩ ?_ ?_
  · rintro i σ H4 hi ⟨g, x6, x7, ws, rfl, k4, b4, l4, d4, wl, g1, wp⟩
    refine ⟨_, rfl, rfl, _, rfl, ite2 (fun c => ?_) (fun c => ?_)⟩
    · have hg : g = 0 := by
        have := of_decide_eq_true c
        injection this
      have i0 : 0 < i := Nat.pos_of_ne_zero fun e => by have := g1 e; omega
      refine ⟨_, rfl, l, _, rfl, .inl ⟨SqL.of l4, fun p hp => ?_⟩⟩
      exact key _ p ws (k4.trans (Kp.same ((Same.refl H4).upd_new hp))) (b4.same ((Same.refl H4).upd_new hp)) upd_same (by omega) (wp i0)
    have hk4 := k4 _ _ hk nkx
    refine ⟨_, rfl, _, rfl, _, rfl, kd, _, rfl, .inr (SqT.of hk4), x, _, rfl, b4, by rw [lts]; omega, by rw [lts]; omega, fun H5 d k5 b5 d5 => ?_⟩
    rw [lts] at d5
    have hd : d < rows.length := by omega
    have k45 := k4.trans k5
    obtain ⟨t, t1, t2, t3⟩ := (hT.keep (hx.tk k45)).at hd
    have l5 := k5 _ _ l4 nlx
    have d5' := k5 _ _ d4 n1x
    refine ⟨kd, _, _, _, rfl, rfl, SqT.of (k45 _ _ hk nkx), at_ofG (j := d) rfl t2, ?_⟩
    generalize rows[d] = q5 at t3
    refine ⟨fun σ H' => ∃ (u : Addr) (q : Row), σ = [some (.ref x), some (.ref kd), some (.int (m : Nat)), some (.ref D1), some (.ref l), some (.int g), some (.int (0 + ((i : Nat) : Int))), some (.ref u)] ∧ Kp x H5 H' ∧ BxT H' x ∧ H' u = some (.tup [.str q.1, .int q.2]), ?_, ?_⟩
    · have no : ∃ (u : Addr) (q : Row), [some (V.ref x), some (.ref kd), some (.int (m : Nat)), some (.ref D1), some (.ref l), some (.int g), some (.int (0 + ((i : Nat) : Int))), some (.ref t)] = [some (V.ref x), some (.ref kd), some (.int (m : Nat)), some (.ref D1), some (.ref l), some (.int g), some (.int (0 + ((i : Nat) : Int))), some (.ref u)] ∧ Kp x H5 H5 ∧ BxT H5 x ∧ H5 u = some (.tup [.str q.1, .int q.2]) := ⟨t, q5, rfl, Kp.refl x H5, b5, t3⟩
      refine ⟨_, rfl, l, _, rfl, .inl (SqL.of l5), _, rfl, _, _, rfl, rfl, _, rfl, t, _, _, _, rfl, rfl, SqT.of t3, atI_nat (j := 1) rfl, _, _, rfl, rfl, _, rfl, _, _, rfl, rfl, _, rfl, ite2 (fun c => ?_) (fun _ => no)⟩
      refine ⟨_, rfl, _, rfl, _, rfl, D1, _, rfl, .inl (SqL.of d5'), x, _, rfl, b5, by rw [List.length_map]; omega, by rw [List.length_map]; omega, fun H6 d6 k6 b6 hd6 => ?_⟩
      rw [List.length_map] at hd6
      have hd6 : d6 < (rows.filter p0).length := by omega
      refine ⟨D1, _, _, _, rfl, rfl, SqL.of (k6 _ _ d5' n1x), at_ofG (j := d6) rfl (by rw [List.getElem?_map, List.getElem?_eq_getElem hd6]; rfl), le_line (show 2 ≤ 10000000 by decide), fun p hp => ?_⟩
      exact ⟨p, (((rows.filter p0)[d6]).1, 0), rfl, k6.trans (Kp.same ((Same.refl H6).upd_new hp)), b6.new hp, upd_same⟩
    rintro σ H6 ⟨u, q, rfl, k6, b6, hu⟩
    have l6 := k6 _ _ l5 nlx
    have d6 := k6 _ _ d5' n1x
    have nul : u ≠ l := ne_of hu l6 (fun e => nomatch e)
    have nDl' : D1 ≠ l := nDl
    refine ⟨_, rfl, .inl ⟨rfl, _, SqL.of l6⟩, _, rfl, u, _, _, _, rfl, rfl, SqT.of hu, atI_nat (j := 0) rfl, l, _, _, rfl, rfl, l6, ?_, ?_⟩
    · rw [List.length_map]
      exact lt_line (by omega)
    have hu7 : (upd H6 l (.lst (ws.map V.str ++ [.str q.1]))) u = some (.tup [.str q.1, .int q.2]) := by rw [upd_ne nul]; exact hu
    refine ⟨_, rfl, _, _, rfl, rfl, _, rfl, u, _, _, _, rfl, rfl, SqT.of hu7, atI_nat (j := 1) rfl, _, _, rfl, rfl, ?_⟩
    refine ⟨g - 1 + q.2, _, _, ws ++ [q.1], rfl, fun b o h n => ?_, b6.upd_ne nlx, by rw [upd_same, List.map_append]; rfl, by rw [upd_ne nDl']; exact d6, ?_, fun h => absurd h (Nat.succ_ne_zero _), fun _ => by rw [List.length_append]; show 0 < ws.length + 1; omega⟩
    · rw [upd_ne (fun e => by rw [e, hl0] at h; cases h)]
      exact (k45.trans k6) b o h n
    · rw [List.length_append]
      show ws.length + 1 ≤ i + 1
      omega
  · rintro σ H4 ⟨g, x6, x7, ws, rfl, k4, b4, l4, d4, wl, g1, wp⟩
    refine ⟨_, rfl, l, _, rfl, .inl ⟨SqL.of l4, fun p hp => ?_⟩⟩
    exact key _ p ws (k4.trans (Kp.same ((Same.refl H4).upd_new hp))) (b4.same ((Same.refl H4).upd_new hp)) upd_same wl (wp m1)
end
end Sh
end
section
set_option Elab.async false
set_option linter.all false
set_option maxRecDepth 100000
set_option maxHeartbeats 16000000
namespace Sh
open PySem PySem.Spec PyProof.Rows L2 NdefX LamX
open C8 (pss_cut tCut)
open Evl (ixN_nat)
theorem dpa_of {α : Type} {K : PySem.W.Frag} {H : Hp} {g : α → PyData} : ∀ {vs : List V} {xs : List α}, vs.length = xs.length → (∀ (i : Nat) (v : V) (x : α), vs[i]? = some v → xs[i]? = some x → Dp K H v (g x)) → DpAll K H vs (xs.map g)
  | [], [], _, _ => .nil
  | v :: vs, x :: xs, hl, h => .cons (h 0 v x rfl rfl) (dpa_of (by simpa using hl) fun i w y a b => h (i + 1) w y a b)
  | [], _ :: _, hl, _ => by simp at hl
  | _ :: _, [], hl, _ => by simp at hl
theorem shp_of {ds : List PyData} (h : ∀ d ∈ ds, d.canLay0 = true ∧ d.depth ≤ 63) : SeqAt.shaped (.list ds) = true := by
  have a : PyData.canLayAll0 ds = true ∧ PyData.depthAll ds ≤ 63 := by
    induction ds with
    | nil => exact ⟨rfl, by decide⟩
    | cons d r ih =>
      obtain ⟨q1, q2⟩ := h d List.mem_cons_self
      obtain ⟨i1, i2⟩ := ih fun x hx => h x (List.mem_cons_of_mem _ hx)
      refine ⟨by simp [PyData.canLayAll0, q1, i1], ?_⟩
      show max (PyData.depth d) (PyData.depthAll r) ≤ 63
      exact Nat.max_le.mpr ⟨q2, i2⟩
  have q : PyData.canLay0 (.list ds) = true := by rw [PyData.canLay0]; exact a.1
  have r : PyData.depth (.list ds) ≤ 64 := by rw [PyData.depth]; omega
  unfold SeqAt.shaped
  rw [q, decide_eq_true r]
  rfl
def rowD (q : Row) : PyData := .tuple [.str q.1, .int q.2]
theorem shp_rows {rows : List Row} (h : ∀ q ∈ rows, PyData.strOk q.1 = true) : SeqAt.shaped (.list (rows.map rowD)) = true := shp_of fun d hd => by
  obtain ⟨q, hq, rfl⟩ := List.mem_map.mp hd
  simp [rowD, h q hq, PyData.canLay0, PyData.canLayAll0, PyData.depth, PyData.depthAll]
theorem nm_ok {z : Str} (h : IsNm z) : PyData.strOk z = true := by
  unfold PyData.strOk
  rw [← Array.all_toList, List.all_eq_true]
  intro c hc
  have := h.2.2 c hc
  exact decide_eq_true (by omega)
theorem eqv_nil (ds : List PyData) : (PyData.list ds).eqv (.list []) = decide (ds = []) := by
  cases ds with
  | nil => rfl
  | cons a r => rfl
theorem shp_nil : SeqAt.shaped (.list []) = true := shp_of fun d h => nomatch h
theorem map_flat_rep (k : Nat) (l : List Str) : (List.replicate k (sV l)).flatten = sV (List.replicate k l).flatten := by
  unfold sV
  rw [List.map_flatten, List.map_replicate]
theorem repG_n {K : PySem.W.Frag} {H : Hp} {a : Addr} {l : List Str} {k : Int} {Q : VK} (ha : H a = some (.tup (sV l))) (hne : l ≠ []) (k0 : 0 ≤ k) (k4 : k ≤ 4000) (l100 : l.length ≤ 100) (kk : ∀ r H' l', Same H H' → H' r = some (.tup (sV l')) → ((l'.length : Nat) : Int) = k * ((l.length : Nat) : Int) → Q (.ref r) H') : rRepG K (.ref a) (.int k) H Q := by
  refine ⟨a, k, sV l, rfl, rfl, SqT.of ha, fun e => hne (List.map_eq_nil_iff.mp e), k0, k4, by rw [sV_len]; exact l100, fun e => ?_, fun _ p hp => ?_⟩
  · exact kk a H l (Same.refl H) ha (by rw [e]; omega)
  · refine kk p _ (List.replicate k.toNat l).flatten ((Same.refl H).upd_new hp) (by rw [upd_same, map_flat_rep]) ?_
    rw [PyProof.Rows.lm_len_rep_flat]
    conv => rhs; rw [← Int.toNat_of_nonneg k0]
    exact Int.natCast_mul _ _
theorem catA_ss {K : PySem.W.Frag} {H : Hp} {a b : Addr} {l m : List Str} {Q : VK} (ha : H a = some (.tup (sV l))) (hb : H b = some (.tup (sV m))) (hl : l.length + m.length ≤ 10000000) (k : ∀ r H', Same H H' → H' r = some (.tup (sV (l ++ m))) → Q (.ref r) H') : rCatA K (.ref a) (.ref b) H Q := by
  refine catA_n ha hb (by rw [sV_len, sV_len]; exact hl) fun r H' s h => k r H' s ?_
  rw [h]
  unfold sV
  rw [List.map_append]
theorem slA_s {K : PySem.W.Frag} {H : Hp} {a : Addr} {l : List Str} {lo hi : Option Int} {Q : VK} (ha : H a = some (.tup (sV l))) (k : ∀ r H' l', Same H H' → H' r = some (.tup (sV l')) → l'.length ≤ l.length → Q (.ref r) H') : rSlA K (.ref a) lo hi H Q := by
  refine ⟨a, sV l, rfl, SqT.of ha, fun _ => k a H l (Same.refl H) ha (Nat.le_refl _), fun _ p hp => ?_⟩
  refine k p _ ((l.drop (HT.sIx (sV l).length 0 lo)).take (HT.sIx (sV l).length (sV l).length hi - HT.sIx (sV l).length 0 lo)) ((Same.refl H).upd_new hp) ?_ ?_
  · rw [upd_same]
    unfold cutV
    congr 2
    unfold sV
    rw [List.map_take, List.map_drop]
  · rw [List.length_take, List.length_drop]
    omega
def p1 (q : Row) : Bool := decide (0 < q.2)
def spTallK : Sp := fun vs H Q _ => ∃ (x kd : Addr) (ts : List Addr) (rows : List Row), vs = [.ref x, .ref kd] ∧ BxT H x ∧ H kd = some (.tup (ts.map V.ref)) ∧ TupsAt H ts rows ∧ ROk 4 rows ∧ ∀ H' t (l : List Str), Kp x H H' → BxT H' x → H' t = some (.tup (sV l)) → l.length ≤ 5000 → Q (.ref t) H'
def spBentK : Sp := fun vs H Q _ => ∃ (x kd r : Addr) (ts : List Addr) (rows : List Row) (l : List Str), vs = [.ref x, .ref kd, .ref r] ∧ BxT H x ∧ H kd = some (.tup (ts.map V.ref)) ∧ TupsAt H ts rows ∧ ROk 4 rows ∧ H r = some (.tup (sV l)) ∧ 0 < l.length ∧ l.length ≤ 1000 ∧ ∀ H' t (l' : List Str), Kp x H H' → BxT H' x → H' t = some (.tup (sV l')) → l'.length ≤ 5000 → Q (.ref t) H'
abbrev N_law_tall : List Str := ["box", "kinds", "bare", "wide", "last", "pair", "side", "total", "many", "front"]
theorem sc_law_tall : FnScope N_law_tall ["box", "kinds"] (defScope s_law_tall) := ⟨rfl, rfl, rfl, by decide +kernel, rfl, by decide +kernel, by decide +kernel⟩
abbrev N_law_bent_row : List Str := ["box", "kinds", "row", "place", "way", "name"]
theorem sc_law_bent_row : FnScope N_law_bent_row ["box", "kinds", "row"] (defScope s_law_bent_row) := ⟨rfl, rfl, rfl, by decide +kernel, rfl, by decide +kernel, by decide +kernel⟩
section
variable {P : Program} {w : World} {K : PySem.W.Frag} {mg : Str → Option Value} {base : Heap}
theorem ok_tallK (T : Bl mg) (c_law_take : DefOk P w K mg base CX0 1 "_law_take" spTake) (D : Def0 K mg "_law_tall" s_law_tall) : DefOk P w K mg base CX0 2 "_law_tall" spTallK := by
  refine D.ok sc_law_tall (fun vs H Q E h => by obtain ⟨x, kd, ts, rows, rfl, _⟩ := h; rfl) (fun _ _ _ _ _ _ us hl => match us, hl with | [_, _], _ => rfl) (fun f cdv A outer s H vs Q E hr h => ?_)
  obtain ⟨x, kd, ts, rows, rfl, hx, hk, hT, R, key⟩ := h
  have r1 := R.pos
  have r4 := R.len
  have nkx := hx.ne_tup hk
  have lts : (ts.map V.ref).length = rows.length := by rw [List.length_map, hT.1]
  refine ⟨_, (pss_cons (ps_setLc (i := 2) (own := [("pair", 5)]) (g := (gName 5)) rfl sc_law_tall.nd rfl rfl (sw_true rfl rfl rfl (by decide +kernel)) (pi_tup (pv 1)) (blkOk_by (N := N_law_tall) (sc := defScope s_law_tall) (by decide +kernel)) (fun _ _ _ _ _ => (pg_name (i := 5) sc_law_tall.nd rfl (Or.inl rfl))) (fun _ _ _ _ _ => (pts_one (pt_cmpR op_eq (pe_ix (show IxR _ (rIxT K) from ix_tup) (pv 5) pe_int (fun _ _ => rfl)) pe_int (nomark _)))) (fun _ _ _ _ _ => (pe_ix (show IxR _ (rIxT K) from ix_tup) (pv 5) pe_int (fun _ _ => rfl))))
    (pss_cons (ps_setLc (i := 3) (own := [("pair", 5)]) (g := (gName 5)) rfl sc_law_tall.nd rfl rfl (sw_true rfl rfl rfl (by decide +kernel)) (pi_tup (pv 1)) (blkOk_by (N := N_law_tall) (sc := defScope s_law_tall) (by decide +kernel)) (fun _ _ _ _ _ => (pg_name (i := 5) sc_law_tall.nd rfl (Or.inl rfl))) (fun _ _ _ _ _ => (pts_one (pt_cmpR op_gt (pe_ix (show IxR _ (rIxT K) from ix_tup) (pv 5) pe_int (fun _ _ => rfl)) pe_int (nomark _)))) (fun _ _ _ _ _ => (pv 5)))
    (pss_cons (ps_set (i := 4) sc_law_tall.nd rfl (Or.inl rfl) (pe_ix ix_list (pv 2) (pe_d c_law_take (hr.mono (by decide)) pass0 (pa_cons (pv 0) (pa_cons (pe_callB call_len_seq (by rfl) T.b_len boot_len (pa_cons (pv 2) pa_nil)) pa_nil))) (fun _ _ => rfl)))
    (pss_cons (ps_if (pt_cmpR (op_eqD hr.units) (pv 3) (pe_lst pa_nil) (nomark _))
      (pss_one (ps_ret (pe_tup (pa_cons (pv 4) pa_nil))))
      pss_nil)
    (pss_cons (ps_set (i := 5) sc_law_tall.nd rfl (Or.inl rfl) (pe_ix ix_list (pv 3) (pe_d c_law_take (hr.mono (by decide)) pass0 (pa_cons (pv 0) (pa_cons (pe_callB call_len_seq (by rfl) T.b_len boot_len (pa_cons (pv 3) pa_nil)) pa_nil))) (fun _ _ => rfl)))
    (pss_cons (ps_set (i := 6) sc_law_tall.nd rfl (Or.inl rfl) (pe_d c_law_take (hr.mono (by decide)) pass0 (pa_cons (pv 0) (pa_cons (pe_ix ix_tup (pv 5) pe_int (fun _ _ => rfl)) pa_nil))))
    (pss_cons (ps_set (i := 7) sc_law_tall.nd rfl (Or.inl rfl) (pe_ix ix_list (pe_lst (pa_cons pe_int (pa_cons pe_int (pa_cons pe_int (pa_cons pe_int (pa_cons pe_int pa_nil)))))) (pe_d c_law_take (hr.mono (by decide)) pass0 (pa_cons (pv 0) (pa_cons pe_int pa_nil))) (fun _ _ => rfl)))
    (pss_cons (ps_set (i := 8) sc_law_tall.nd rfl (Or.inl rfl) (pe_op op_fdiv (pe_op op_sub (pv 7) pe_int) (pe_ix ix_tup (pv 5) pe_int (fun _ _ => rfl))))
    (pss_cons (ps_set (i := 9) sc_law_tall.nd rfl (Or.inl rfl) (pe_op op_catA (pe_tup (pa_cons (pe_ix ix_tup (pv 5) pe_int (fun _ _ => rfl)) pa_nil)) (pe_op op_repG (pe_tup (pa_cons (pe_ix ix_list (pv 2) pe_int (fun _ _ => rfl)) pa_nil)) (pv 6))))
    (pss_one (ps_ret (pe_op op_catA (pe_op op_catA (pe_op op_repG (pv 9) (pv 8)) (pe_tup (pa_cons (pv 4) pa_nil))) (pe_op op_repG (pe_tup (pa_cons (pe_ix ix_list (pv 2) pe_int (fun _ _ => rfl)) pa_nil)) (pe_op op_mul (pe_op op_sub (pe_op op_sub (pe_ix ix_tup (pv 5) pe_int (fun _ _ => rfl)) pe_int) (pv 6)) (pv 8))))))))))))))), ?_⟩
  refine ⟨_, rfl, kd, rfl, ⟨_, SqT.of hk⟩, fun D1 hD1 => lc_it (walk_tup (xs := ts.map V.ref)) (fun i H' => Same H H' ∧ H' D1 = some (.lst (((rows.take i).filter p0).map fun q => V.str q.1))) ⟨(Same.refl H).upd_new hD1, upd_same⟩ (fun i H' _ ⟨q, _⟩ => SqT.of (q _ _ hk)) ?_ ?_⟩
  · rintro i v H1' H1 hi ⟨s1, d1⟩ ⟨rfl, hv⟩
    obtain ⟨t, ht, rfl⟩ := get_map_r hv
    have hir : i < rows.length := by rw [← lts]; exact hi
    have hq := List.getElem?_eq_getElem hir
    have h1 := s1 _ _ (hT.2 i t rows[i] ht hq)
    refine ⟨rfl, _, rfl, t, _, _, _, rfl, rfl, SqT.of h1, atI_nat (j := 1) rfl, rfl, _, rfl, ite2 (fun c => ?_) (fun c => ⟨s1, ?_⟩)⟩
    · have hP : p0 rows[i] = true := decide_eq_true (by have := of_decide_eq_true c; injection this)
      refine ⟨_, rfl, t, _, _, _, rfl, rfl, SqT.of h1, atI_nat (j := 0) rfl, _, d1, ?_, s1.upd_own hD1, ?_⟩
      · rw [List.length_map]
        have := List.length_filter_le p0 (rows.take i)
        rw [List.length_take] at this
        exact lt_line (by omega)
      · rw [upd_same, take_snoc' hq, List.filter_append, List.filter_cons_of_pos hP, List.map_append]
        rfl
    · have hP : ¬ p0 rows[i] = true := fun h => c (decide_eq_true (by rw [show (rows[i]).2 = 0 from of_decide_eq_true h]))
      rw [take_snoc' hq, List.filter_append, List.filter_cons_of_neg hP, List.filter_nil, List.append_nil]
      exact d1
  rintro H1 ⟨s1, d1⟩
  rw [lts, List.take_length] at d1
  have tpos : 1 ≤ (rows.filter p0).length := by
    obtain ⟨q, h1, h2⟩ := R.leaf
    have : q ∈ rows.filter p0 := List.mem_filter.mpr ⟨h1, decide_eq_true h2⟩
    exact List.length_pos_of_mem this
  have tle := List.length_filter_le p0 rows
  have b1 := hx.same s1
  have n1x : D1 ≠ x := hx.ne hD1
  have hk1 := s1 _ _ hk
  -- the wide ones
  refine ⟨_, rfl, kd, rfl, ⟨_, SqT.of hk1⟩, fun D2 hD2 => lc_it (walk_tup (xs := ts.map V.ref)) (fun i H' => Same H1 H' ∧ ∃ us : List Addr, H' D2 = some (.lst (us.map V.ref)) ∧ TupsAt H' us ((rows.take i).filter p1)) ⟨(Same.refl H1).upd_new hD2, [], upd_same, ⟨rfl, fun i t q a => by simp at a⟩⟩ (fun i H' _ ⟨q, _⟩ => SqT.of (q _ _ hk1)) ?_ ?_⟩
  · rintro i v H2' H2 hi ⟨s2, us, d2, u2⟩ ⟨rfl, hv⟩
    obtain ⟨t, ht, rfl⟩ := get_map_r hv
    have hir : i < rows.length := by rw [← lts]; exact hi
    have hq := List.getElem?_eq_getElem hir
    have h1 := s2 _ _ (s1 _ _ (hT.2 i t rows[i] ht hq))
    refine ⟨rfl, _, rfl, t, _, _, _, rfl, rfl, SqT.of h1, atI_nat (j := 1) rfl, _, _, rfl, rfl, _, rfl, ite2 (fun c => ?_) (fun c => ⟨s2, us, d2, ?_⟩)⟩
    · have hP : p1 rows[i] = true := c
      refine ⟨_, rfl, _, d2, ?_, s2.upd_own hD2, us ++ [t], by rw [upd_same, List.map_append]; rfl, ?_⟩
      · rw [List.length_map, u2.1]
        have := List.length_filter_le p1 (rows.take i)
        rw [List.length_take] at this
        exact lt_line (by omega)
      · rw [take_snoc' hq, List.filter_append, List.filter_cons_of_pos hP]
        have tk : TK H2 (upd H2 D2 (.lst (us.map V.ref ++ [.ref t]))) := fun p ys h => by rw [upd_ne (ne_of h d2 (fun e => nomatch e))]; exact h
        exact (u2.keep tk).snoc (tk _ _ h1)
    · rw [take_snoc' hq, List.filter_append, List.filter_cons_of_neg (by exact c), List.filter_nil, List.append_nil]
      exact u2
  rintro H2 ⟨s2, us, d2, u2⟩
  rw [lts, List.take_length] at u2
  have s02 := s1.trans s2
  have b2 := hx.same s02
  have d1 := s2 _ _ d1
  have n2x : D2 ≠ x := b1.ne hD2
  refine ⟨_, rfl, _, rfl, _, rfl, D1, _, rfl, .inl (SqL.of d1), x, _, rfl, b2, by rw [List.length_map]; omega, by rw [List.length_map]; omega, fun H3 d k3 b3 hd3 => ?_⟩
  rw [List.length_map] at hd3
  have hd : d < (rows.filter p0).length := by omega
  have d1 := k3 _ _ d1 n1x
  have d2 := k3 _ _ d2 n2x
  have u2 := u2.keep (b2.tk k3)
  obtain ⟨lz, hlz⟩ : ∃ lz : Str, ((rows.filter p0).map fun q => V.str q.1)[d]? = some (.str lz) := ⟨_, by rw [List.getElem?_map, List.getElem?_eq_getElem hd]; rfl⟩
  obtain ⟨bz, hbz⟩ : ∃ lz : Str, ((rows.filter p0).map fun q => V.str q.1)[0]? = some (.str lz) := ⟨_, by rw [List.getElem?_map, List.getElem?_eq_getElem (show 0 < (rows.filter p0).length by omega)]; rfl⟩
  refine ⟨D1, _, _, _, rfl, rfl, SqL.of d1, at_ofG (j := d) rfl hlz, ?_⟩
  have k03 := (Kp.same s02).trans k3
  have lus : us.length = (rows.filter p1).length := u2.1
  refine ⟨_, rfl, le_line (show 0 ≤ 10000000 by decide), fun N hN => ?_⟩
  have sN := (Same.refl H3).upd_new (o := .lst []) hN
  have eN : (upd H3 N (.lst [])) N = some (.lst []) := upd_same
  have kN := k03.trans (Kp.same sN)
  have bN := b3.new (o := .lst []) hN
  generalize upd H3 N (.lst []) = H4 at sN eN kN bN
  have d1 := sN _ _ d1
  have d2 := sN _ _ d2
  have u2 := u2.keep fun _ _ h => sN _ _ h
  have fsub : ∀ q ∈ rows.filter p1, q ∈ rows := fun q h => (List.mem_filter.mp h).1
  refine ⟨.list ((rows.filter p1).map rowD), .list [], .lst (SqL.of d2) (dpa_of (by rw [List.length_map, lus]) fun i v q h1 h2 => ?_), .lst (SqL.of eN) .nil, shp_rows fun q hq => nm_ok (R.nm q (fsub q hq)), shp_nil, _, rfl, ?_⟩
  · obtain ⟨u, hu, rfl⟩ := get_map_r h1
    exact .tup (SqT.of (u2.2 i u q hu h2)) (.cons (.str _) (.cons (.int _) .nil))
  rw [eqv_nil]
  refine ite2 (fun c => ?_) (fun c => ?_)
  · refine ⟨_, rfl, le_line (show 1 ≤ 10000000 by decide), fun p hp => ?_⟩
    exact key _ p [lz] (kN.trans (Kp.same ((Same.refl H4).upd_new hp))) (bN.new hp) upd_same (by show 1 ≤ 5000; decide)
  have wpos : 0 < (rows.filter p1).length := List.length_pos_iff.mpr fun e => c (by rw [e]; rfl)
  have wle := List.length_filter_le p1 rows
  refine ⟨_, rfl, _, rfl, _, rfl, D2, _, rfl, .inl (SqL.of d2), x, _, rfl, bN, by rw [List.length_map, lus]; omega, by rw [List.length_map, lus]; omega, fun H5 e k5 b5 he5 => ?_⟩
  rw [List.length_map, lus] at he5
  have he : e < (rows.filter p1).length := by omega
  have d1 := k5 _ _ d1 n1x
  have d2 := k5 _ _ d2 n2x
  obtain ⟨t, t1, t2, t3⟩ := (u2.keep (bN.tk k5)).at he
  refine ⟨D2, _, _, _, rfl, rfl, SqL.of d2, at_ofG (j := e) rfl t2, ?_⟩
  obtain ⟨hm1, hm2⟩ := List.mem_filter.mp (List.getElem_mem he)
  generalize (rows.filter p1)[e] = q at t3 hm1 hm2
  have q0 : 0 < q.2 := of_decide_eq_true hm2
  have q3 := (R.wd q hm1).2
  refine ⟨_, rfl, _, rfl, t, _, _, _, rfl, rfl, SqT.of t3, atI_nat (j := 1) rfl, x, _, rfl, b5, q0, by omega, fun H6 sd k6 b6 hsd => ?_⟩
  have t3 := b5.tk k6 _ _ t3
  have d1 := k6 _ _ d1 n1x
  refine ⟨le_line (show 5 ≤ 10000000 by decide), fun L hL => ?_⟩
  have nLx : L ≠ x := b6.ne hL
  have sL := (Same.refl H6).upd_new (o := .lst [.int 2000, .int 2001, .int 700, .int 1999, .int 2003]) hL
  have eL : (upd H6 L (.lst [.int 2000, .int 2001, .int 700, .int 1999, .int 2003])) L = some (.lst (([2000, 2001, 700, 1999, 2003] : List Int).map V.int)) := upd_same
  have b7 := b6.new (o := .lst [.int 2000, .int 2001, .int 700, .int 1999, .int 2003]) hL
  have t3 := sL _ _ t3
  have d1 := sL _ _ d1
  have k07 := ((kN.trans k5).trans k6).trans (Kp.same sL)
  generalize upd H6 L (.lst [.int 2000, .int 2001, .int 700, .int 1999, .int 2003]) = H7 at sL eL b7 t3 d1 k07
  refine ⟨_, rfl, x, 5, rfl, b7, by decide, by decide, fun H8 g k8 b8 hg => ?_⟩
  obtain ⟨tot, ht, tl, th⟩ := pickI (l := [2000, 2001, 700, 1999, 2003]) (fun z => 700 ≤ z ∧ z ≤ 2003) (by decide) (e := g) (by show g < 5; omega)
  have t3 := b7.tk k8 _ _ t3
  have d1 := k8 _ _ d1 n1x
  have k08 := k07.trans k8
  refine ⟨L, _, _, _, rfl, rfl, SqL.of (k8 _ _ eL nLx), at_ofG (j := g) rfl ht, ?_⟩
  refine ⟨_, rfl, _, _, rfl, rfl, _, rfl, t, _, _, _, rfl, rfl, SqT.of t3, atI_nat (j := 1) rfl, _, _, rfl, rfl, ⟨q0, by omega⟩, ?_⟩
  have mB : 200 ≤ (tot - 1) / q.2 ∧ (tot - 1) / q.2 ≤ 2002 ∧ (tot - 1) / q.2 * q.2 ≤ tot - 1 := by
    have c3 : q.2 = 1 ∨ q.2 = 2 ∨ q.2 = 3 := by omega
    rcases c3 with e | e | e <;> rw [e] <;> omega
  have sdl : ((sd : Nat) : Int) < q.2 := hsd
  have key := fun H' r (l : List Str) (s : Same H8 H') => key H' r l (k08.trans (Kp.same s)) (b8.same s)
  obtain ⟨m1, m2, m3⟩ := mB
  refine ⟨_, rfl, t, _, _, _, rfl, rfl, SqT.of t3, atI_nat (j := 0) rfl, le_line (show 1 ≤ 10000000 by decide), fun pA hA => ?_⟩
  have sA := (Same.refl H8).upd_new (o := .tup [.str q.1]) hA
  have eA : (upd H8 pA (.tup [.str q.1])) pA = some (.tup (sV [q.1])) := upd_same
  generalize upd H8 pA (.tup [.str q.1]) = H9 at sA eA
  refine ⟨_, rfl, D1, _, _, _, rfl, rfl, SqL.of (sA _ _ d1), at_ofG (j := 0) rfl hbz, le_line (show 1 ≤ 10000000 by decide), fun pB hB => ?_⟩
  have sB := (Same.refl H9).upd_new (o := .tup [.str bz]) hB
  have eB : (upd H9 pB (.tup [.str bz])) pB = some (.tup (sV [bz])) := upd_same
  generalize upd H9 pB (.tup [.str bz]) = H10 at sB eB
  refine ⟨_, rfl, repG_n eB (fun e => nomatch e) (by omega) (by omega) (by show 1 ≤ 100; decide) fun r1 H11 l1 s11 h1 g1 => ?_⟩
  refine catA_ss (s11 _ _ (sB _ _ eA)) h1 (by show 1 + l1.length ≤ 10000000; have : ((l1.length : Nat) : Int) = ((sd : Nat) : Int) * 1 := g1; omega) fun r2 H12 s12 h2 => ?_
  have s82 := ((sA.trans sB).trans s11).trans s12
  have lf : (([q.1] ++ l1).length : Int) = 1 + ((sd : Nat) : Int) := by
    have : ((l1.length : Nat) : Int) = ((sd : Nat) : Int) * 1 := g1
    rw [List.length_append]
    show ((1 + l1.length : Nat) : Int) = _
    omega
  have nef : [q.1] ++ l1 ≠ [] := fun e => nomatch e
  generalize [q.1] ++ l1 = front at h2 lf nef
  refine ⟨_, rfl, _, rfl, repG_n h2 nef (by omega) (by omega) (by omega) fun r3 H13 l3 s13 h3 g3 => ?_⟩
  refine ⟨_, rfl, le_line (show 1 ≤ 10000000 by decide), fun pC hC => ?_⟩
  have sC := (Same.refl H13).upd_new (o := .tup [.str lz]) hC
  have eC : (upd H13 pC (.tup [.str lz])) pC = some (.tup (sV [lz])) := upd_same
  generalize upd H13 pC (.tup [.str lz]) = H14 at sC eC
  have totb : ((l3.length : Nat) : Int) + (q.2 - 1 - ((sd : Nat) : Int)) * ((tot - 1) / q.2) ≤ 2002 ∧ 0 ≤ (q.2 - 1 - ((sd : Nat) : Int)) * ((tot - 1) / q.2) := by
    have g3 : ((l3.length : Nat) : Int) = ((tot - 1) / q.2) + ((tot - 1) / q.2) * ((sd : Nat) : Int) := by rw [g3, lf, Int.mul_add, Int.mul_one]
    have c3 : q.2 = 1 ∨ q.2 = 2 ∨ q.2 = 3 := by omega
    have cs : ((sd : Nat) : Int) = 0 ∨ ((sd : Nat) : Int) = 1 ∨ ((sd : Nat) : Int) = 2 := by omega
    rcases c3 with e | e | e <;> rcases cs with f | f | f <;> rw [e] at m1 m2 m3 g3 sdl ⊢ <;> rw [f] at g3 sdl ⊢ <;> omega
  obtain ⟨t1', t2'⟩ := totb
  refine catA_ss (sC _ _ h3) eC (by show l3.length + 1 ≤ 10000000; omega) fun r4 H15 s15 h4 => ?_
  have s85 := ((s82.trans s13).trans sC).trans s15
  refine ⟨_, rfl, D1, _, _, _, rfl, rfl, SqL.of (s85 _ _ d1), at_ofG (j := 0) rfl hbz, le_line (show 1 ≤ 10000000 by decide), fun pD hD => ?_⟩
  have sD := (Same.refl H15).upd_new (o := .tup [.str bz]) hD
  have eD : (upd H15 pD (.tup [.str bz])) pD = some (.tup (sV [bz])) := upd_same
  generalize upd H15 pD (.tup [.str bz]) = H16 at sD eD
  refine ⟨_, rfl, t, _, _, _, rfl, rfl, SqT.of (sD _ _ (s85 _ _ t3)), atI_nat (j := 1) rfl, _, _, rfl, rfl, _, rfl, _, _, rfl, rfl, _, rfl, _, _, rfl, rfl, .inl ⟨by omega, by omega⟩, repG_n eD (fun e => nomatch e) t2' (by omega) (by show 1 ≤ 100; decide) fun r5 H17 l5 s17 h5 g5 => ?_⟩
  have g5 : ((l5.length : Nat) : Int) = (q.2 - 1 - ((sd : Nat) : Int)) * ((tot - 1) / q.2) * 1 := g5
  refine catA_ss (s17 _ _ (sD _ _ h4)) h5 (by rw [List.length_append]; show l3.length + 1 + l5.length ≤ 10000000; omega) fun r6 H18 s18 h6 => ?_
  exact key _ r6 _ (((s85.trans sD).trans s17).trans s18) h6 (by rw [List.length_append, List.length_append]; show l3.length + 1 + l5.length ≤ 5000; omega)
theorem ok_bentK (T : Bl mg) (c_law_take : DefOk P w K mg base CX0 1 "_law_take" spTake) (c_law_stranger : DefOk P w K mg base CX0 2 "_law_stranger" spStranger) (D : Def0 K mg "_law_bent_row" s_law_bent_row) : DefOk P w K mg base CX0 3 "_law_bent_row" spBentK := by
  refine D.ok sc_law_bent_row (fun vs H Q E h => by obtain ⟨x, kd, r, ts, rows, l, rfl, _⟩ := h; rfl) (fun _ _ _ _ _ _ us hl => match us, hl with | [_, _, _], _ => rfl) (fun f cdv A outer s H vs Q E hr h => ?_)
  obtain ⟨x, kd, r, ts, rows, l, rfl, hx, hk, hT, R, hr0, l0, l1, key⟩ := h
  have r1 := R.pos
  have r4 := R.len
  have nkx := hx.ne_tup hk
  have nrx := hx.ne_tup hr0
  have lts : (ts.map V.ref).length = rows.length := by rw [List.length_map, hT.1]
  refine ⟨_, (pss_cons (ps_set (i := 3) sc_law_bent_row.nd rfl (Or.inl rfl) (pe_d c_law_take (hr.mono (by decide)) pass0 (pa_cons (pv 0) (pa_cons (pe_callB call_len_seq (by rfl) T.b_len boot_len (pa_cons (pv 2) pa_nil)) pa_nil))))
    (pss_cons (ps_set (i := 4) sc_law_bent_row.nd rfl (Or.inl rfl) (pe_d c_law_take (hr.mono (by decide)) pass0 (pa_cons (pv 0) (pa_cons pe_int pa_nil))))
    (pss_cons (ps_set (i := 5) sc_law_bent_row.nd rfl (Or.inl rfl) (pe_ix ix_tup (pe_ix ix_tup (pv 1) (pe_d c_law_take (hr.mono (by decide)) pass0 (pa_cons (pv 0) (pa_cons (pe_callB call_len_seq (by rfl) T.b_len boot_len (pa_cons (pv 1) pa_nil)) pa_nil))) (fun _ _ => rfl)) pe_int (fun _ _ => rfl)))
    (pss_cons (ps_if (pt_cmpR op_eq (pv 4) pe_int (nomark _))
      (pss_one (ps_ret (pe_slice sl_tupA (pv 2) po_none (po_some (pe_un un_neg pe_int)))))
      pss_nil)
    (pss_cons (ps_if (pt_cmpR op_eq (pv 4) pe_int (nomark _))
      (pss_one (ps_ret (pe_op op_catA (pv 2) (pe_tup (pa_cons (pv 5) pa_nil)))))
      pss_nil)
    (pss_cons (ps_if (pt_cmpR op_eq (pv 4) pe_int (nomark _))
      (pss_one (ps_ret (pe_op op_catA (pe_op op_catA (pe_slice sl_tupA (pv 2) po_none (po_some (pv 3))) (pe_tup (pa_cons (pe_d c_law_stranger (hr.mono (by decide)) pass0 (pa_cons (pv 0) (pa_cons (pv 1) pa_nil))) pa_nil))) (pe_slice sl_tupA (pv 2) (po_some (pe_op op_add (pv 3) pe_int)) po_none))))
      pss_nil)
    (pss_cons (ps_if (pt_cmpR op_eq (pv 4) pe_int (nomark _))
      (pss_one (ps_ret (pe_op op_catA (pe_op op_catA (pe_slice sl_tupA (pv 2) po_none (po_some (pv 3))) (pe_tup (pa_cons (pv 5) pa_nil))) (pe_slice sl_tupA (pv 2) (po_some (pv 3)) po_none))))
      pss_nil)
    (pss_cons (ps_if (pt_cmpR op_eq (pv 4) pe_int (nomark _))
      (pss_one (ps_ret (pe_tup pa_nil)))
      pss_nil)
    (pss_one (ps_ret (pe_op op_catA (pe_op op_catA (pe_slice sl_tupA (pv 2) po_none (po_some (pv 3))) (pe_tup (pa_cons (pv 5) pa_nil))) (pe_slice sl_tupA (pv 2) (po_some (pe_op op_add (pv 3) pe_int)) po_none)))))))))))), ?_⟩
  refine ⟨_, rfl, _, rfl, r, _, rfl, .inr (SqT.of hr0), x, _, rfl, hx, by rw [sV_len]; omega, by rw [sV_len]; omega, fun H1 pl k1 b1 hpl => ?_⟩
  refine ⟨_, rfl, x, 6, rfl, b1, by decide, by decide, fun H2 way k2 b2 hway => ?_⟩
  have k02 := k1.trans k2
  refine ⟨_, rfl, _, rfl, _, rfl, kd, _, rfl, .inr (SqT.of (k02 _ _ hk nkx)), x, _, rfl, b2, by rw [lts]; omega, by rw [lts]; omega, fun H3 d k3 b3 d3 => ?_⟩
  rw [lts] at d3
  have hd : d < rows.length := by omega
  have k03 := k02.trans k3
  have hT3 := hT.keep (hx.tk k03)
  obtain ⟨t, t1, t2, t3⟩ := hT3.at hd
  have hk3 := k03 _ _ hk nkx
  have hr3 := k03 _ _ hr0 nrx
  refine ⟨kd, _, _, _, rfl, rfl, SqT.of hk3, at_ofG (j := d) rfl t2, t, _, _, _, rfl, rfl, SqT.of t3, atI_nat (j := 0) rfl, ?_⟩
  generalize (rows[d]).1 = nm
  have go : ∀ {H' : Hp} {u : Addr} {l' : List Str}, Same H3 H' → H' u = some (.tup (sV l')) → l'.length ≤ 5000 → Q (.ref u) H' := fun s h1 h2 => key _ _ _ (k03.trans (Kp.same s)) (b3.same s) h1 h2
  refine ⟨_, rfl, rfl, _, rfl, ite2 (fun c => ?_) (fun c => ?_)⟩
  · exact ⟨_, rfl, _, rfl, _, rfl, slA_s hr3 fun u H' l' s h1 h2 => go s h1 (by omega)⟩
  refine ⟨_, rfl, rfl, _, rfl, ite2 (fun c => ?_) (fun c => ?_)⟩
  · refine ⟨_, rfl, _, rfl, le_line (show 1 ≤ 10000000 by decide), fun p hp => ?_⟩
    have sp := (Same.refl H3).upd_new (o := .tup [.str nm]) hp
    have ep : (upd H3 p (.tup [.str nm])) p = some (.tup (sV [nm])) := upd_same
    exact catA_ss (sp _ _ hr3) ep (by show l.length + 1 ≤ 10000000; omega) fun u H' s h1 => go (sp.trans s) h1 (by rw [List.length_append]; show l.length + 1 ≤ 5000; omega)
  refine ⟨_, rfl, rfl, _, rfl, ite2 (fun c => ?_) (fun c => ?_)⟩
  · refine ⟨_, rfl, _, rfl, _, rfl, slA_s hr3 fun u1 H4 l4 s4 e4 g4 => ?_⟩
    refine ⟨_, rfl, _, rfl, x, kd, ts, rows, rfl, b3.same s4, s4 _ _ hk3, hT3.keep (fun _ _ h => s4 _ _ h), R, fun H5 z k5 b5 hz hK => ?_⟩
    have ne4 : u1 ≠ x := (b3.same s4).ne_tup e4
    refine ⟨le_line (show 1 ≤ 10000000 by decide), fun p hp => ?_⟩
    have sp := (Same.refl H5).upd_new (o := .tup [.str z]) hp
    have ep : (upd H5 p (.tup [.str z])) p = some (.tup (sV [z])) := upd_same
    have b6 := b5.new (o := .tup [.str z]) hp
    generalize upd H5 p (.tup [.str z]) = H6 at sp ep b6
    have k36 := ((Kp.same s4).trans k5).trans (Kp.same sp)
    refine catA_ss (sp _ _ (k5 _ _ e4 ne4)) ep (by show l4.length + 1 ≤ 10000000; omega) fun u2 H7 s7 e7 => ?_
    refine ⟨_, rfl, _, rfl, _, _, rfl, rfl, _, rfl, ?_⟩
    unfold tNoPart
    refine slA_s (s7 _ _ (k36 _ _ hr3 nrx)) fun u3 H8 l8 s8 e8 g8 => ?_
    refine catA_ss (s8 _ _ e7) e8 (by rw [List.length_append]; show l4.length + 1 + l8.length ≤ 10000000; omega) fun u4 H9 s9 e9 => ?_
    have s69 := (s7.trans s8).trans s9
    exact key _ _ _ ((k03.trans k36).trans (Kp.same s69)) (b6.same s69) e9 (by rw [List.length_append, List.length_append]; show l4.length + 1 + l8.length ≤ 5000; omega)
  refine ⟨_, rfl, rfl, _, rfl, ite2 (fun c => ?_) (fun c => ?_)⟩
  · refine ⟨_, rfl, _, rfl, _, rfl, slA_s hr3 fun u1 H4 l4 s4 e4 g4 => ?_⟩
    refine ⟨_, rfl, le_line (show 1 ≤ 10000000 by decide), fun p hp => ?_⟩
    have sp := s4.upd_new (o := .tup [.str nm]) hp
    have s45 := (Same.refl H4).upd_new (o := .tup [.str nm]) hp
    have ep : (upd H4 p (.tup [.str nm])) p = some (.tup (sV [nm])) := upd_same
    generalize upd H4 p (.tup [.str nm]) = H6 at sp s45 ep
    refine catA_ss (s45 _ _ e4) ep (by show l4.length + 1 ≤ 10000000; omega) fun u2 H7 s7 e7 => ?_
    refine ⟨_, rfl, _, rfl, _, rfl, ?_⟩
    unfold tNoPart
    refine slA_s (s7 _ _ (sp _ _ hr3)) fun u3 H8 l8 s8 e8 g8 => ?_
    refine catA_ss (s8 _ _ e7) e8 (by rw [List.length_append]; show l4.length + 1 + l8.length ≤ 10000000; omega) fun u4 H9 s9 e9 => ?_
    exact go (((sp.trans s7).trans s8).trans s9) e9 (by rw [List.length_append, List.length_append]; show l4.length + 1 + l8.length ≤ 5000; omega)
  refine ⟨_, rfl, rfl, _, rfl, ite2 (fun c => ?_) (fun c => ?_)⟩
  · exact ⟨le_line (show 0 ≤ 10000000 by decide), fun p hp => go (l' := []) ((Same.refl H3).upd_new hp) upd_same (by decide)⟩
  · refine ⟨_, rfl, _, rfl, _, rfl, slA_s hr3 fun u1 H4 l4 s4 e4 g4 => ?_⟩
    refine ⟨_, rfl, le_line (show 1 ≤ 10000000 by decide), fun p hp => ?_⟩
    have sp := s4.upd_new (o := .tup [.str nm]) hp
    have s45 := (Same.refl H4).upd_new (o := .tup [.str nm]) hp
    have ep : (upd H4 p (.tup [.str nm])) p = some (.tup (sV [nm])) := upd_same
    generalize upd H4 p (.tup [.str nm]) = H6 at sp s45 ep
    refine catA_ss (s45 _ _ e4) ep (by show l4.length + 1 ≤ 10000000; omega) fun u2 H7 s7 e7 => ?_
    refine ⟨_, rfl, _, rfl, _, _, rfl, rfl, _, rfl, ?_⟩
    unfold tNoPart
    refine slA_s (s7 _ _ (sp _ _ hr3)) fun u3 H8 l8 s8 e8 g8 => ?_
    refine catA_ss (s8 _ _ e7) e8 (by rw [List.length_append]; show l4.length + 1 + l8.length ≤ 10000000; omega) fun u4 H9 s9 e9 => ?_
    exact go (((sp.trans s7).trans s8).trans s9) e9 (by rw [List.length_append, List.length_append]; show l4.length + 1 + l8.length ≤ 5000; omega)
end
end Sh
end
section
set_option Elab.async false
set_option linter.all false
set_option maxRecDepth 100000
set_option maxHeartbeats 16000000
namespace Sh
open PySem PySem.Spec PyProof.Rows L2 NdefX LamX
open C8 (pss_cut tCut)
open Evl (ixN_nat)
theorem pe_X {X : Cx} {x : Str} {C : Addr} {pos : Pos} (hg : Gl X x) (h : X.mg x = some (.ref C)) (hd : (x == ("__debug__" : Str)) = false := by decide) : PE X (.Name x pos) (tC (.ref C)) := pe_glob hg h rfl hd
/-- an exception class, where it is caught -/
structure KC (K : PySem.W.Frag) (mg : Str → Option Value) (x : Str) (C CY : Addr) (fs : List Str) : Prop where
  g : mg x = some (.ref C)
  ex : ExcD K C
  xo : XOk K C fs
  ky : PySem.W.kitOne K (.ref C) (.ref CY) = some true
  kv : PySem.W.kitOne K (.ref C) (.type "ValueError") = some true
structure K5 (K : PySem.W.Frag) (mg : Str → Option Value) (A : XA) (B : XB) (N CY : Addr) : Prop where
  y : mg "YardError" = some (.ref CY)
  t : KC K mg "TooMany" A.T CY ["what", "limit"]
  p : KC K mg "InvalidPlant" A.P CY ["place"]
  u : KC K mg "UnknownKind" A.U CY ["kind"]
  w : KC K mg "WrongBranches" A.W CY ["wanted", "given"]
  n : KC K mg "NoState" N CY ["state"]
  r : KC K mg "InvalidReader" B.R CY ["place"]
  bt : B.T = A.T
  tp : PySem.W.exmOne K (.ref A.T) (.ref A.P) = some false
  tr : PySem.W.exmOne K (.ref A.T) (.ref B.R) = some false
  wu : PySem.W.exmOne K (.ref A.W) (.ref A.U) = some false
  nu : PySem.W.exmOne K (.ref N) (.ref A.U) = some false
  nw : PySem.W.exmOne K (.ref N) (.ref A.W) = some false
theorem fs_one (x : Str) (v : V) : (xfs [x] [v] []).lookup x = some v := by
  show (putF x v []).lookup x = some v
  simp [putF, List.lookup]
theorem fs_tm : tmF.lookup ("what" : Str) = some (.str "knots") ∧ tmF.lookup ("limit" : Str) = some (.int 2000) ∧ tmFS.lookup ("what" : Str) = some (.str "states") ∧ tmFS.lookup ("limit" : Str) = some (.int 40) := by refine ⟨?_, ?_, ?_, ?_⟩ <;> decide +kernel
theorem fs_wr (i j : Int) : (xfs ["wanted", "given"] [.int i, .int j] []).lookup ("wanted" : Str) = some (.int i) ∧ (xfs ["wanted", "given"] [.int i, .int j] []).lookup ("given" : Str) = some (.int j) := by
  have n : ¬ ("wanted" : Str) = "given" ∧ ¬ ("given" : Str) = "wanted" := by decide +kernel
  constructor <;> simp [xfs, putF, List.lookup, n, beq_eq_false_iff_ne.mpr]
/-- what is told of a row at a door -/
def TvK (H : Hp) (rows : List Row) (D : RdD) (l : List Str) (d : Nat) (xs : List V) : Prop := match due rows false l with
  | none => (d = 0 ∧ xs = [.str "state", .int (((stL rows D l).headD 0 : Nat) : Int)]) ∨ (d = 1 ∧ ∃ t', xs = [.str "states", .ref t'] ∧ H t' = some (.tup (nI (stsL rows D l)))) ∨ (d = 2 ∧ xs = [.str "in", .bl (decide ((stL rows D l).headD 0 ∈ D.marks))])
  | some .many => xs = [.str "TooMany", .str "knots", .int 2000, .bl true, .bl true]
  | some (.plant i) => xs = [.str "InvalidPlant", .int ((i : Nat) : Int), .bl true, .bl true]
  | _ => False
def spToldK (C CR : Addr) : Sp := fun vs H Q _ => ∃ (u b t : Addr) (d : Nat) (l : List Str) (rows : List Row) (D : RdD), vs = [.ref u, .int (d : Nat), .ref t] ∧ d < 3 ∧ RdAt C CR H u b rows D ∧ ROk 4 rows ∧ D.Ok rows ∧ H t = some (.tup (sV l)) ∧ l.length ≤ 6000 ∧ ∀ H' p xs, Same H H' → H' p = some (.tup xs) → TvK H' rows D l d xs → Q (.ref p) H'
theorem due_cases (rows : List Row) (l : List Str) : due rows false l = none ∨ due rows false l = some .many ∨ ∃ i, due rows false l = some (.plant i) := by
  unfold due
  split
  · exact .inr (.inl rfl)
  · cases fault rows false l with
    | none => exact .inl rfl
    | some i => exact .inr (.inr ⟨i, rfl⟩)
abbrev N_law_told : List Str := ["reader", "door", "row", "wrong", "much"]
theorem sc_law_told : FnScope N_law_told ["reader", "door", "row"] (defScope s_law_told) := ⟨rfl, rfl, rfl, by decide +kernel, rfl, by decide +kernel, by decide +kernel⟩
section
variable {P : Program} {w : World} {K : PySem.W.Frag} {mg : Str → Option Value} {base : Heap} {C CR N CY : Addr} {A : XA} {B : XB}
theorem ok_toldK (T : Bk mg) (BR : RdT K CR) (kk : K5 K mg A B N CY) (c_state_of : StOk P w K mg base C CR A) (c_states_of : StsOk P w K mg base C CR A) (c_contains : HasOk P w K mg base C CR A) (D : Def0 K mg "_law_told" s_law_told) : DefOk P w K mg base CX0 7 "_law_told" (spToldK C CR) := by
  refine D.ok sc_law_told (fun vs H Q E h => by obtain ⟨u, b, t, d, l, rows, D, rfl, _⟩ := h; rfl) (fun _ _ _ _ _ _ us hl => match us, hl with | [_, _, _], _ => rfl) (fun f cdv A' outer s H vs Q E hr h => ?_)
  obtain ⟨u, b, t, d, l, rows, D, rfl, d3, hRd, R, hD, ht, l6, key⟩ := h
  have n_TooMany : ∀ {X : Cx}, X.mg = mg → Gl X "TooMany" → Names X "TooMany" (.ref A.T) := fun e g => ⟨g, by decide, .inl (by rw [e]; exact kk.t.g)⟩
  have n_InvalidPlant : ∀ {X : Cx}, X.mg = mg → Gl X "InvalidPlant" → Names X "InvalidPlant" (.ref A.P) := fun e g => ⟨g, by decide, .inl (by rw [e]; exact kk.p.g)⟩
  have X_TooMany := kk.t.xo
  have X_InvalidPlant := kk.p.xo
  have x_YardError := kk.y
  obtain ⟨f1, M_state_of, F_state_of⟩ := c_state_of
  obtain ⟨f2, M_states_of, F_states_of⟩ := c_states_of
  obtain ⟨f3, M_contains, F_contains⟩ := c_contains
  refine ⟨_, (pss_one (ps_try_as_many rfl rfl sc_law_told.nd (fun W pn xe tk po => (pss_cons (ps_if (pt_cmpR op_eq (pv 1) pe_int (nomark _))
        (pss_one (ps_ret (pe_tup (pa_cons pe_str (pa_cons (pe_methZ (pv 0) BR.cl M_state_of F_state_of (hr.mono (by decide)) (fun _ => passAt tk _) (pa_cons (pv 2) pa_nil)) pa_nil)))))
        pss_nil)
      (pss_cons (ps_if (pt_cmpR op_eq (pv 1) pe_int (nomark _))
        (pss_one (ps_ret (pe_tup (pa_cons pe_str (pa_cons (pe_methZ (pv 0) BR.cl M_states_of F_states_of (hr.mono (by decide)) (fun _ => passAt tk _) (pa_cons (pv 2) pa_nil)) pa_nil)))))
        pss_nil)
      (pss_one (ps_ret (pe_tup (pa_cons pe_str (pa_cons (pe_cmp (pc_inO (pv 2) (pv 0) M_contains F_contains (hr.mono (by decide)) (fun _ => passAt tk _)) rfl) pa_nil)))))))) (HdsAs.cons (i := 3) rfl rfl (n_InvalidPlant rfl rfl) (fun a oe cls d pn hz hf => (pss_one (ps_ret (pe_tup (pa_cons pe_str (pa_cons (pe_xf X_InvalidPlant.xf (X_InvalidPlant.no "place" (by decide +kernel)) hz hf (pv 3)) (pa_cons (pe_callB (call_isD hz hf) (by rfl) T.b_isinstance (by decide +kernel) (pa_cons (pv 3) (pa_cons (pe_X (by rfl) x_YardError) pa_nil))) (pa_cons (pe_callB (call_isD hz hf) (by rfl) T.b_isinstance (by decide +kernel) (pa_cons (pv 3) (pa_cons (pe_bltn (v := .ty "ValueError") (by rfl) T.b_ValueError (by decide +kernel) rfl) pa_nil))) pa_nil)))))))) (HdsAs.cons (i := 4) rfl rfl (n_TooMany rfl rfl) (fun a oe cls d pn hz hf => (pss_one (ps_ret (pe_tup (pa_cons pe_str (pa_cons (pe_xf X_TooMany.xf (X_TooMany.no "what" (by decide +kernel)) hz hf (pv 4)) (pa_cons (pe_xf X_TooMany.xf (X_TooMany.no "limit" (by decide +kernel)) hz hf (pv 4)) (pa_cons (pe_callB (call_isD hz hf) (by rfl) T.b_isinstance (by decide +kernel) (pa_cons (pv 4) (pa_cons (pe_X (by rfl) x_YardError) pa_nil))) (pa_cons (pe_callB (call_isD hz hf) (by rfl) T.b_isinstance (by decide +kernel) (pa_cons (pv 4) (pa_cons (pe_bltn (v := .ty "ValueError") (by rfl) T.b_ValueError (by decide +kernel) rfl) pa_nil))) pa_nil))))))))) .nil)))), ?_⟩
  obtain ⟨rx, rd, rm, rds, hr1, hB, hr3, hr4⟩ := id hRd
  have lk : ∀ x : Str, (x == ("bed" : Str)) = false → (x == ("states" : Str)) = false → (x == ("cells" : Str)) = false → (x == ("marks" : Str)) = false → (x == ("otherwise" : Str)) = false → (rdF b D.many rd rm D.rest).lookup x = none := fun x => lk_none x b rd rm D.many D.rest
  match d, d3 with
  | 0, _ =>
    refine ⟨_, rfl, rfl, _, rfl, ifp (decide_eq_true rfl) ?_⟩
    refine ⟨_, rfl, u, rx, _, rfl, hr1, lk _ (by decide +kernel) (by decide +kernel) (by decide +kernel) (by decide +kernel) (by decide +kernel), _, rfl, u, b, t, l, rows, D, rfl, hRd, R, hD, ht, l6, ?_⟩
    unfold Way
    unfold TvK at key
    rcases due_cases rows l with e | e | ⟨i, e⟩ <;> rw [e] at key ⊢
    · refine fun H1 s1 => ⟨le_line (show 2 ≤ 10000000 by decide), fun q hq => ?_⟩
      exact key _ q _ (s1.upd_new hq) upd_same (.inl ⟨rfl, rfl⟩)
    · intro H1 dd s1 hd
      refine ⟨false, kk.tp, (fun e => nomatch e), fun _ => ⟨true, kk.t.xo.me, fun _ a ha => ?_, fun e => nomatch e⟩⟩
      have s2 := s1.upd_new (o := .xd (Ex.fs .many)) hd
      refine ⟨_, rfl, rfl, rfl, dd, _, _, rfl, upd_same, fs_tm.1, _, rfl, rfl, rfl, dd, _, _, rfl, upd_same, fs_tm.2.1, ?_⟩
      refine ⟨_, rfl, _, dd, _, _, .ref CY, _, rfl, rfl, rfl, upd_same, kk.t.ex, fun _ h => h, kk.t.ky, ?_⟩
      refine ⟨_, rfl, _, dd, _, .ty "ValueError", .type "ValueError", true, rfl, rfl, rfl, upd_same, kk.t.ex, fun _ h => h, kk.t.kv, ?_⟩
      exact ⟨le_line (show 5 ≤ 10000000 by decide), fun q hq => key _ q _ (s2.upd_new hq) upd_same rfl⟩
    · intro H1 dd s1 hd
      refine ⟨true, kk.p.xo.me, fun _ a ha => ?_, fun e => nomatch e⟩
      have s2 := s1.upd_new (o := .xd (Ex.fs (.plant i))) hd
      refine ⟨_, rfl, rfl, rfl, dd, _, _, rfl, upd_same, fs_one _ _, ?_⟩
      refine ⟨_, rfl, _, dd, _, _, .ref CY, _, rfl, rfl, rfl, upd_same, kk.p.ex, fun _ h => h, kk.p.ky, ?_⟩
      refine ⟨_, rfl, _, dd, _, .ty "ValueError", .type "ValueError", true, rfl, rfl, rfl, upd_same, kk.p.ex, fun _ h => h, kk.p.kv, ?_⟩
      exact ⟨le_line (show 4 ≤ 10000000 by decide), fun q hq => key _ q _ (s2.upd_new hq) upd_same rfl⟩
  | 1, _ =>
    refine ⟨_, rfl, rfl, _, rfl, ifn (fun e => by have := of_decide_eq_true e; simp at this) ?_⟩
    refine ⟨_, rfl, rfl, _, rfl, ifp (decide_eq_true rfl) ?_⟩
    refine ⟨_, rfl, u, rx, _, rfl, hr1, lk _ (by decide +kernel) (by decide +kernel) (by decide +kernel) (by decide +kernel) (by decide +kernel), _, rfl, u, b, t, l, rows, D, rfl, hRd, R, hD, ht, l6, ?_⟩
    unfold Way
    unfold TvK at key
    rcases due_cases rows l with e | e | ⟨i, e⟩ <;> rw [e] at key ⊢
    · refine fun H1 t' s1 ht' => ⟨le_line (show 2 ≤ 10000000 by decide), fun q hq => ?_⟩
      exact key _ q _ (s1.upd_new hq) upd_same (.inr (.inl ⟨rfl, t', rfl, by rw [upd_ne (ne_of_none ht' hq)]; exact ht'⟩))
    · intro H1 dd s1 hd
      refine ⟨false, kk.tp, (fun e => nomatch e), fun _ => ⟨true, kk.t.xo.me, fun _ a ha => ?_, fun e => nomatch e⟩⟩
      have s2 := s1.upd_new (o := .xd (Ex.fs .many)) hd
      refine ⟨_, rfl, rfl, rfl, dd, _, _, rfl, upd_same, fs_tm.1, _, rfl, rfl, rfl, dd, _, _, rfl, upd_same, fs_tm.2.1, ?_⟩
      refine ⟨_, rfl, _, dd, _, _, .ref CY, _, rfl, rfl, rfl, upd_same, kk.t.ex, fun _ h => h, kk.t.ky, ?_⟩
      refine ⟨_, rfl, _, dd, _, .ty "ValueError", .type "ValueError", true, rfl, rfl, rfl, upd_same, kk.t.ex, fun _ h => h, kk.t.kv, ?_⟩
      exact ⟨le_line (show 5 ≤ 10000000 by decide), fun q hq => key _ q _ (s2.upd_new hq) upd_same rfl⟩
    · intro H1 dd s1 hd
      refine ⟨true, kk.p.xo.me, fun _ a ha => ?_, fun e => nomatch e⟩
      have s2 := s1.upd_new (o := .xd (Ex.fs (.plant i))) hd
      refine ⟨_, rfl, rfl, rfl, dd, _, _, rfl, upd_same, fs_one _ _, ?_⟩
      refine ⟨_, rfl, _, dd, _, _, .ref CY, _, rfl, rfl, rfl, upd_same, kk.p.ex, fun _ h => h, kk.p.ky, ?_⟩
      refine ⟨_, rfl, _, dd, _, .ty "ValueError", .type "ValueError", true, rfl, rfl, rfl, upd_same, kk.p.ex, fun _ h => h, kk.p.kv, ?_⟩
      exact ⟨le_line (show 4 ≤ 10000000 by decide), fun q hq => key _ q _ (s2.upd_new hq) upd_same rfl⟩
  | 2, _ =>
    refine ⟨_, rfl, rfl, _, rfl, ifn (fun e => by have := of_decide_eq_true e; simp at this) ?_⟩
    refine ⟨_, rfl, rfl, _, rfl, ifn (fun e => by have := of_decide_eq_true e; simp at this) ?_⟩
    refine ⟨_, rfl, _, rfl, u, rx, _, rfl, hr1, u, b, t, l, rows, D, rfl, hRd, R, hD, ht, l6, ?_⟩
    unfold Way
    unfold TvK at key
    rcases due_cases rows l with e | e | ⟨i, e⟩ <;> rw [e] at key ⊢
    · refine fun H1 s1 => ⟨_, rfl, le_line (show 2 ≤ 10000000 by decide), fun q hq => ?_⟩
      exact key _ q _ (s1.upd_new hq) upd_same (.inr (.inr ⟨rfl, rfl⟩))
    · intro H1 dd s1 hd
      refine ⟨false, kk.tp, (fun e => nomatch e), fun _ => ⟨true, kk.t.xo.me, fun _ a ha => ?_, fun e => nomatch e⟩⟩
      have s2 := s1.upd_new (o := .xd (Ex.fs .many)) hd
      refine ⟨_, rfl, rfl, rfl, dd, _, _, rfl, upd_same, fs_tm.1, _, rfl, rfl, rfl, dd, _, _, rfl, upd_same, fs_tm.2.1, ?_⟩
      refine ⟨_, rfl, _, dd, _, _, .ref CY, _, rfl, rfl, rfl, upd_same, kk.t.ex, fun _ h => h, kk.t.ky, ?_⟩
      refine ⟨_, rfl, _, dd, _, .ty "ValueError", .type "ValueError", true, rfl, rfl, rfl, upd_same, kk.t.ex, fun _ h => h, kk.t.kv, ?_⟩
      exact ⟨le_line (show 5 ≤ 10000000 by decide), fun q hq => key _ q _ (s2.upd_new hq) upd_same rfl⟩
    · intro H1 dd s1 hd
      refine ⟨true, kk.p.xo.me, fun _ a ha => ?_, fun e => nomatch e⟩
      have s2 := s1.upd_new (o := .xd (Ex.fs (.plant i))) hd
      refine ⟨_, rfl, rfl, rfl, dd, _, _, rfl, upd_same, fs_one _ _, ?_⟩
      refine ⟨_, rfl, _, dd, _, _, .ref CY, _, rfl, rfl, rfl, upd_same, kk.p.ex, fun _ h => h, kk.p.ky, ?_⟩
      refine ⟨_, rfl, _, dd, _, .ty "ValueError", .type "ValueError", true, rfl, rfl, rfl, upd_same, kk.p.ex, fun _ h => h, kk.p.kv, ?_⟩
      exact ⟨le_line (show 4 ≤ 10000000 by decide), fun q hq => key _ q _ (s2.upd_new hq) upd_same rfl⟩
  | n + 3, h => exact absurd h (by omega)
end
end Sh
end
section
set_option Elab.async false
set_option linter.all false
set_option maxRecDepth 100000
set_option maxHeartbeats 16000000
namespace Sh
open PySem PySem.Spec PyProof.Rows L2 NdefX LamX
open C8 (pss_cut tCut)
open Evl (ixN_nat)
def FlatK (x : V) : Prop := (∃ i, x = .int i) ∨ (∃ z : Str, x = .str z) ∨ ∃ b : Bool, x = .bl b
theorem FlatK.sam {n : Nat} {H : Hp} {x : V} (h : FlatK x) : Sam6 (n + 1) H x x := by
  rcases h with ⟨i, rfl⟩ | ⟨z, rfl⟩ | ⟨b, rfl⟩
  · exact .inl ⟨_, rfl, rfl⟩
  · exact .inr (.inl ⟨_, rfl, rfl⟩)
  · exact .inr (.inr (.inl ⟨_, rfl, rfl⟩))
theorem sam_flat {n : Nat} {H : Hp} {p q : Addr} {xs : List V} (hp : H p = some (.tup xs)) (hq : H q = some (.tup xs)) (hl : xs.length ≤ 10000000) (hf : ∀ x ∈ xs, FlatK x) : Sam6 (n + 2) H (.ref p) (.ref q) := by
  refine .inr (.inr (.inr ⟨p, q, _, _, rfl, rfl, hp, hq, rfl, hl, fun i x y hx hy => ?_⟩))
  rw [hx] at hy
  cases hy
  exact (hf x (List.mem_of_getElem? hx)).sam
theorem TvK.same {H H' : Hp} {rows : List Row} {D : RdD} {l : List Str} {d : Nat} {xs : List V} (x : TvK H rows D l d xs) (s : Same H H') : TvK H' rows D l d xs := by
  unfold TvK at x ⊢
  rcases due_cases rows l with e | e | ⟨i, e⟩ <;> rw [e] at x ⊢
  · rcases x with x | ⟨hd, t', h1, h2⟩ | x
    · exact .inl x
    · exact .inr (.inl ⟨hd, t', h1, s _ _ h2⟩)
    · exact .inr (.inr x)
  · exact x
  · exact x
theorem TvK.sam {n : Nat} {H : Hp} {rows : List Row} {D : RdD} {l : List Str} {d : Nat} {xs ys : List V} {p q : Addr} (x : TvK H rows D l d xs) (y : TvK H rows D l d ys) (l6 : l.length ≤ 6000) (hp : H p = some (.tup xs)) (hq : H q = some (.tup ys)) : Sam6 (n + 3) H (.ref p) (.ref q) := by
  unfold TvK at x y
  rcases due_cases rows l with e | e | ⟨i, e⟩ <;> rw [e] at x y
  · rcases x with ⟨rfl, rfl⟩ | ⟨rfl, t', rfl, ht⟩ | ⟨rfl, rfl⟩
    · rcases y with ⟨_, rfl⟩ | ⟨h, _⟩ | ⟨h, _⟩
      · refine sam_flat (n := n + 1) hp hq (by show 2 ≤ 10000000; decide) fun x hx => ?_
        simp at hx
        rcases hx with rfl | rfl
        · exact .inr (.inl ⟨_, rfl⟩)
        · exact .inl ⟨_, rfl⟩
      · cases h
      · cases h
    · rcases y with ⟨h, _⟩ | ⟨_, t2, rfl, ht2⟩ | ⟨h, _⟩
      · cases h
      · refine .inr (.inr (.inr ⟨p, q, _, _, rfl, rfl, hp, hq, rfl, by show 2 ≤ 10000000; decide, fun i x y hx hy => ?_⟩))
        match i, hx, hy with
        | 0, hx, hy => cases hx; cases hy; exact .inr (.inl ⟨_, rfl, rfl⟩)
        | 1, hx, hy => cases hx; cases hy; exact sam_nums ht ht2 (by rw [stsL_len]; omega)
      · cases h
    · rcases y with ⟨h, _⟩ | ⟨h, _⟩ | ⟨_, rfl⟩
      · cases h
      · cases h
      · refine sam_flat (n := n + 1) hp hq (by show 2 ≤ 10000000; decide) fun x hx => ?_
        simp at hx
        rcases hx with rfl | rfl
        · exact .inr (.inl ⟨_, rfl⟩)
        · exact .inr (.inr ⟨_, rfl⟩)
  · rw [x] at hp
    rw [y] at hq
    refine sam_flat (n := n + 1) hp hq (by show 5 ≤ 10000000; decide) fun x hx => ?_
    simp at hx
    rcases hx with rfl | rfl | rfl | rfl
    · exact .inr (.inl ⟨_, rfl⟩)
    · exact .inr (.inl ⟨_, rfl⟩)
    · exact .inl ⟨_, rfl⟩
    · exact .inr (.inr ⟨_, rfl⟩)
  · rw [x] at hp
    rw [y] at hq
    refine sam_flat (n := n + 1) hp hq (by show 4 ≤ 10000000; decide) fun x hx => ?_
    simp at hx
    rcases hx with rfl | rfl | rfl
    · exact .inr (.inl ⟨_, rfl⟩)
    · exact .inl ⟨_, rfl⟩
    · exact .inr (.inr ⟨_, rfl⟩)
def spRowRight (P : Program) (w : World) (C CR : Addr) : Sp := fun vs H Q _ => ∃ (d a u b t : Addr) (l : List Str) (rows : List Row) (D : RdD) (ex : List V), vs = [.ref d, .ref a, .ref u, .ref t] ∧ H d = some (.dK (wL rows)) ∧ LrA P w H a D ex ∧ RdAt C CR H u b rows D ∧ ROk 4 rows ∧ D.Ok rows ∧ H t = some (.tup (sV l)) ∧ l.length ≤ 6000 ∧ ∀ H', Same H H' → Q (.bl true) H'
abbrev N_law_row_right : List Str := ["sizes", "drawn", "reader", "row", "place", "due", "states", "door"]
theorem sc_law_row_right : FnScope N_law_row_right ["sizes", "drawn", "reader", "row"] (defScope s_law_row_right) := ⟨rfl, rfl, rfl, by decide +kernel, rfl, by decide +kernel, by decide +kernel⟩
section
variable {P : Program} {w : World} {K : PySem.W.Frag} {mg : Str → Option Value} {base : Heap} {C CR : Addr}
theorem ok_rowRight (T : Bl mg) (c_law_fault : DefOk P w K mg base CX0 1 "_law_fault" spFaultK) (c_law_row_states : DefOk P w K mg base CX0 1 "_law_row_states" (spRowStK P w)) (c_law_same : DefOk P w K mg base CX0 4 "_law_same" (spSam6 4)) (c_law_told : DefOk P w K mg base CX0 7 "_law_told" (spToldK C CR)) (D : Def0 K mg "_law_row_right" s_law_row_right) : DefOk P w K mg base CX0 8 "_law_row_right" (spRowRight P w C CR) := by
  refine D.ok sc_law_row_right (fun vs H Q E h => by obtain ⟨d, a, u, b, t, l, rows, D, ex, rfl, _⟩ := h; rfl) (fun _ _ _ _ _ _ us hl => match us, hl with | [_, _, _, _], _ => rfl) (fun f cdv A' outer s H vs Q E hr h => ?_)
  obtain ⟨d, a, u, b, t, l, rows, D, ex, rfl, hd, hA, hRd, R, hD, ht, l6, key⟩ := h
  refine ⟨_, (pss_cons (ps_set (i := 4) sc_law_row_right.nd rfl (Or.inl rfl) (pe_d c_law_fault (hr.mono (by decide)) pass0 (pa_cons (pv 0) (pa_cons (pv 3) pa_nil))))
    (pss_cut (ps_if (pt_cmpR op_gt (pe_callB call_len_seq (by rfl) T.b_len boot_len (pa_cons (pv 3) pa_nil)) pe_int (nomark _))
      (pss_one (ps_set (i := 5) sc_law_row_right.nd rfl (Or.inl rfl) (pe_op op_rep (pe_lst (pa_cons (pe_tup (pa_cons pe_str (pa_cons pe_str (pa_cons pe_int (pa_cons pe_bl (pa_cons pe_bl pa_nil)))))) pa_nil)) pe_int)))
      (pss_one (ps_if (pt_cmpR op_ge (pv 4) pe_int (nomark _))
        (pss_one (ps_set (i := 5) sc_law_row_right.nd rfl (Or.inl rfl) (pe_op op_rep (pe_lst (pa_cons (pe_tup (pa_cons pe_str (pa_cons (pv 4) (pa_cons pe_bl (pa_cons pe_bl pa_nil))))) pa_nil)) pe_int)))
        (pss_cons (ps_set (i := 6) sc_law_row_right.nd rfl (Or.inl rfl) (pe_d c_law_row_states (hr.mono (by decide)) pass0 (pa_cons (pv 0) (pa_cons (pe_ix ix_list (pv 1) pe_int (fun _ _ => rfl)) (pa_cons (pv 3) pa_nil)))))
        (pss_one (ps_set (i := 5) sc_law_row_right.nd rfl (Or.inl rfl) (pe_lst (pa_cons (pe_tup (pa_cons pe_str (pa_cons (pe_ix ix_tup (pv 6) pe_int (fun _ _ => rfl)) pa_nil))) (pa_cons (pe_tup (pa_cons pe_str (pa_cons (pv 6) pa_nil))) (pa_cons (pe_tup (pa_cons pe_str (pa_cons (pe_cmpR op_in_seq (pe_ix ix_tup (pv 6) pe_int (fun _ _ => rfl)) (pe_ix ix_list (pv 1) pe_int (fun _ _ => rfl)) (by rfl)) pa_nil))) pa_nil))))))))))
    (pss_cons (ps_for PassesOwn.never rfl (pi_range1 (by rfl) T.b_range (pa_cons pe_int pa_nil)) (pg_name (i := 7) sc_law_row_right.nd rfl (Or.inl rfl))
      (pss_one (ps_if (pt_not (pt_val (pe_d c_law_same (hr.mono (by decide)) pass0 (pa_cons (pe_d c_law_told (hr.mono (by decide)) pass0 (pa_cons (pv 2) (pa_cons (pv 7) (pa_cons (pv 3) pa_nil)))) (pa_cons (pe_ix ix_list (pv 5) (pv 7) (fun _ _ => rfl)) pa_nil)))))
        (pss_one (ps_ret pe_bl))
        pss_nil)))
    (pss_one (ps_ret pe_bl))))), ?_⟩
  obtain ⟨tR, tM, tS, vR, a1, a2, a3, a4, a5⟩ := id hA
  have aat : ∀ (j : Nat) (v : V), ([.int ((D.many : Nat) : Int), .ref tR, .int ((D.rest : Nat) : Int), .ref tM, .ref tS] : List V)[j]? = some v → ([.int ((D.many : Nat) : Int), .ref tR, .int ((D.rest : Nat) : Int), .ref tM, .ref tS] ++ ex : List V)[j]? = some v := fun j v h => by
    rw [List.getElem?_append_left (List.getElem?_eq_some_iff.mp h).1]
    exact h
  refine ⟨_, rfl, _, rfl, d, t, rows, l, rfl, hd, R, ht, l6, ?_⟩
  refine ⟨fun σ H' => ∃ (x6 : Option V) (dl : Addr) (ps : List Addr), σ = [some (.ref d), some (.ref a), some (.ref u), some (.ref t), some (.int (fI rows l)), some (.ref dl), x6, none] ∧ Same H H' ∧ H' dl = some (.lst (ps.map V.ref)) ∧ ps.length = 3 ∧ ∀ (i : Nat) (p : Addr), ps[i]? = some p → ∃ xs, H' p = some (.tup xs) ∧ TvK H' rows D l i xs, ?_, ?_⟩
  · refine ⟨_, rfl, t, _, rfl, .inr (SqT.of ht), _, _, rfl, rfl, _, rfl, ite2 (fun c => ?_) (fun c => ?_)⟩
    · rw [sV_len] at c
      have hc : 2000 < l.length := by have := of_decide_eq_true c; omega
      have hdue : due rows false l = some .many := by
        unfold due
        rw [if_pos hc]
      refine ⟨le_line (show 5 ≤ 10000000 by decide), fun p hp => ?_⟩
      have s1 := (Same.refl H).upd_new (o := .tup [.str "TooMany", .str "knots", .int 2000, .bl true, .bl true]) hp
      have e1 : (upd H p (.tup [.str "TooMany", .str "knots", .int 2000, .bl true, .bl true])) p = some (.tup [.str "TooMany", .str "knots", .int 2000, .bl true, .bl true]) := upd_same
      generalize upd H p (.tup [.str "TooMany", .str "knots", .int 2000, .bl true, .bl true]) = H1 at s1 e1
      refine ⟨le_line (show 1 ≤ 10000000 by decide), fun L1 hL1 => ?_⟩
      have s2 := s1.upd_new (o := .lst [.ref p]) hL1
      have s12 := (Same.refl H1).upd_new (o := .lst [.ref p]) hL1
      have e2 : (upd H1 L1 (.lst [.ref p])) L1 = some (.lst [.ref p]) := upd_same
      generalize upd H1 L1 (.lst [.ref p]) = H2 at s2 s12 e2
      refine ⟨L1, _, _, rfl, rfl, e2, by decide, by decide, le_line (show 1 * 3 ≤ 10000000 by decide), fun L2 hL2 => ?_⟩
      refine ⟨_, L2, [p, p, p], rfl, s2.upd_new hL2, upd_same, rfl, fun i q hq => ?_⟩
      have eq : q = p := by
        have := List.mem_of_getElem? hq
        simp at this
        exact this
      subst eq
      refine ⟨_, (Same.refl H2).upd_new hL2 _ _ (s12 _ _ e1), ?_⟩
      unfold TvK
      rw [hdue]
    rw [sV_len] at c
    have hc : ¬ 2000 < l.length := fun h => c (decide_eq_true (by omega))
    have hdd : due rows false l = (fault rows false l).map Ex.plant := by
      unfold due
      rw [if_neg hc]
      rfl
    refine ⟨_, rfl, _, _, rfl, rfl, _, rfl, ite2 (fun c2 => ?_) (fun c2 => ?_)⟩
    · obtain ⟨i, hi⟩ : ∃ i, fault rows false l = some i := by
        cases e : fault rows false l with
        | none =>
          have := of_decide_eq_true c2
          unfold fI at this
          rw [e] at this
          exact absurd this (by decide)
        | some i => exact ⟨i, rfl⟩
      have hdue : due rows false l = some (.plant i) := by rw [hdd, hi]; rfl
      have hfI : fI rows l = ((i : Nat) : Int) := by unfold fI; rw [hi]
      refine ⟨_, rfl, le_line (show 4 ≤ 10000000 by decide), fun p hp => ?_⟩
      have s1 := (Same.refl H).upd_new (o := .tup [.str "InvalidPlant", .int (fI rows l), .bl true, .bl true]) hp
      have e1 : (upd H p (.tup [.str "InvalidPlant", .int (fI rows l), .bl true, .bl true])) p = some (.tup [.str "InvalidPlant", .int (fI rows l), .bl true, .bl true]) := upd_same
      generalize upd H p (.tup [.str "InvalidPlant", .int (fI rows l), .bl true, .bl true]) = H1 at s1 e1
      refine ⟨le_line (show 1 ≤ 10000000 by decide), fun L1 hL1 => ?_⟩
      have s2 := s1.upd_new (o := .lst [.ref p]) hL1
      have s12 := (Same.refl H1).upd_new (o := .lst [.ref p]) hL1
      have e2 : (upd H1 L1 (.lst [.ref p])) L1 = some (.lst [.ref p]) := upd_same
      generalize upd H1 L1 (.lst [.ref p]) = H2 at s2 s12 e2
      refine ⟨L1, _, _, rfl, rfl, e2, by decide, by decide, le_line (show 1 * 3 ≤ 10000000 by decide), fun L2 hL2 => ?_⟩
      refine ⟨_, L2, [p, p, p], rfl, s2.upd_new hL2, upd_same, rfl, fun i q hq => ?_⟩
      have eq : q = p := by
        have := List.mem_of_getElem? hq
        simp at this
        exact this
      subst eq
      refine ⟨_, (Same.refl H2).upd_new hL2 _ _ (s12 _ _ e1), ?_⟩
      unfold TvK
      rw [hdue, hfI]
    · have hi : fault rows false l = none := by
        cases e : fault rows false l with
        | none => rfl
        | some i =>
          refine absurd (decide_eq_true ?_) c2
          unfold fI
          rw [e]
          show (0 : Int) ≤ ((i : Nat) : Int)
          omega
      have hdue : due rows false l = none := by rw [hdd, hi]; rfl
      have hP := due_plant R hdue
      refine ⟨_, rfl, _, rfl, a, _, _, _, rfl, rfl, SqL.of a1, at_ofG (j := 4) rfl (aat 4 _ rfl), _, rfl, d, tS, t, rows, D, l, rfl, hd, R, hD, a5, ht, hP, fun H1 ts s1 hts => ?_⟩
      have h0 := nI_at (stsL_zero (rows := rows) (D := D) hP.pos)
      refine ⟨_, rfl, ts, _, _, _, rfl, rfl, SqT.of hts, at_ofG (j := 0) rfl h0, le_line (show 2 ≤ 10000000 by decide), fun p0 hp0 => ?_⟩
      have s2 := (Same.refl H1).upd_new (o := .tup [.str "state", .int (((stL rows D l).headD 0 : Nat) : Int)]) hp0
      have e0 : (upd H1 p0 (.tup [.str "state", .int (((stL rows D l).headD 0 : Nat) : Int)])) p0 = some (.tup [.str "state", .int (((stL rows D l).headD 0 : Nat) : Int)]) := upd_same
      generalize upd H1 p0 (.tup [.str "state", .int (((stL rows D l).headD 0 : Nat) : Int)]) = H2 at s2 e0
      refine ⟨_, rfl, le_line (show 2 ≤ 10000000 by decide), fun p1 hp1 => ?_⟩
      have s3 := (Same.refl H2).upd_new (o := .tup [.str "states", .ref ts]) hp1
      have e1 : (upd H2 p1 (.tup [.str "states", .ref ts])) p1 = some (.tup [.str "states", .ref ts]) := upd_same
      generalize upd H2 p1 (.tup [.str "states", .ref ts]) = H3 at s3 e1
      have s13 := s2.trans s3
      refine ⟨_, rfl, ts, _, _, _, rfl, rfl, SqT.of (s13 _ _ hts), at_ofG (j := 0) rfl h0, _, rfl, a, _, _, _, rfl, rfl, SqL.of (s13 _ _ (s1 _ _ a1)), at_ofG (j := 3) rfl (aat 3 _ rfl), tM, _, rfl, .inr (SqT.of (s13 _ _ (s1 _ _ a4))), rfl, nI_flat _, le_line (show 2 ≤ 10000000 by decide), fun p2 hp2 => ?_⟩
      rw [inV_nI, if_neg Bool.false_ne_true]
      have s4 := (Same.refl H3).upd_new (o := .tup [.str "in", .bl (decide ((stL rows D l).headD 0 ∈ D.marks))]) hp2
      have e2 : (upd H3 p2 (.tup [.str "in", .bl (decide ((stL rows D l).headD 0 ∈ D.marks))])) p2 = some (.tup [.str "in", .bl (decide ((stL rows D l).headD 0 ∈ D.marks))]) := upd_same
      generalize upd H3 p2 (.tup [.str "in", .bl (decide ((stL rows D l).headD 0 ∈ D.marks))]) = H4 at s4 e2
      refine ⟨le_line (show 3 ≤ 10000000 by decide), fun L hL => ?_⟩
      have s5 := (Same.refl H4).upd_new (o := .lst [.ref p0, .ref p1, .ref p2]) hL
      refine ⟨_, L, [p0, p1, p2], rfl, ((s1.trans s13).trans s4).trans s5, upd_same, rfl, fun i q hq => ?_⟩
      have s45 := s4.trans s5
      match i, hq with
      | 0, hq =>
        cases hq
        refine ⟨_, s45 _ _ (s3 _ _ e0), ?_⟩
        unfold TvK
        rw [hdue]
        exact .inl ⟨rfl, rfl⟩
      | 1, hq =>
        cases hq
        refine ⟨_, s45 _ _ e1, ?_⟩
        unfold TvK
        rw [hdue]
        exact .inr (.inl ⟨rfl, ts, rfl, s45 _ _ (s13 _ _ hts)⟩)
      | 2, hq =>
        cases hq
        refine ⟨_, s5 _ _ e2, ?_⟩
        unfold TvK
        rw [hdue]
        exact .inr (.inr ⟨rfl, rfl⟩)
  rintro σ H1 ⟨x6, dl, ps, rfl, s1, hdl, lp, hps⟩
  refine ⟨_, rfl, by decide, by decide, for_range (n := 3) (fun i σ H' => ∃ (x7 : Option V), σ = [some (.ref d), some (.ref a), some (.ref u), some (.ref t), some (.int (fI rows l)), some (.ref dl), x6, x7] ∧ Same H1 H') ⟨none, rfl, Same.refl H1⟩ ?_ ?_⟩
  · rintro i σ H2 hi ⟨x7, rfl, s2⟩
    have s12 := s1.trans s2
    have hpi := List.getElem?_eq_getElem (show i < ps.length by omega)
    generalize ps[i] = pi at hpi
    obtain ⟨xs, h1, h2⟩ := hps i pi hpi
    have e0 : (0 : Int) + ((i : Nat) : Int) = ((i : Nat) : Int) := by omega
    rw [e0]
    refine ⟨_, rfl, _, rfl, _, rfl, u, b, t, i, l, rows, D, rfl, hi, hRd.same s12, R, hD, s12 _ _ ht, l6, fun H3 p ys s3 hp hT => ?_⟩
    have s23 := s2.trans s3
    refine ⟨_, rfl, _, rfl, dl, _, _, _, rfl, rfl, SqL.of (s23 _ _ hdl), at_ofG (j := i) rfl (by rw [List.getElem?_map, hpi]; rfl), _, _, rfl, hT.sam (n := 1) (h2.same s23) l6 hp (s23 _ _ h1), fun H4 s4 => ⟨_, rfl, ifn (by decide) ⟨_, rfl, s23.trans s4⟩⟩⟩
  · rintro σ H2 ⟨x7, rfl, s2⟩
    exact key _ (s1.trans s2)
end
end Sh
end
section
set_option Elab.async false
set_option linter.all false
set_option maxRecDepth 100000
set_option maxHeartbeats 16000000
namespace Sh
open PySem PySem.Spec PyProof.Rows L2 NdefX LamX
open C8 (pss_cut tCut)
open Evl (ixN_nat)
theorem stp_kind {rows : List Row} {D : RdD} {z : Str} {ss : List Int} (h : ¬ HasN rows z) : stpDue rows D z ss = .kind := by
  unfold stpDue
  exact if_pos h
theorem stp_wrong {rows : List Row} {D : RdD} {z : Str} {ss : List Int} (h : HasN rows z) (hl : ss.length ≠ wR rows z) : stpDue rows D z ss = .wrong := by
  unfold stpDue
  rw [if_neg (not_not_intro h), if_pos hl]
theorem stp_no {rows : List Row} {D : RdD} {z : Str} {ss : List Int} {i : Int} (h : HasN rows z) (hl : ss.length = wR rows z) (hf : ss.find? (fun s => !decide (InS (D.many : Nat) s)) = some i) : stpDue rows D z ss = .no i := by
  unfold stpDue
  rw [if_neg (not_not_intro h), if_neg (not_not_intro hl), hf]
theorem stp_okk {rows : List Row} {D : RdD} {z : Str} {ss : List Int} (h : HasN rows z) (hl : ss.length = wR rows z) (hf : ss.find? (fun s => !decide (InS (D.many : Nat) s)) = none) : stpDue rows D z ss = .ok := by
  unfold stpDue
  rw [if_neg (not_not_intro h), if_neg (not_not_intro hl), hf]
theorem stp_all {D : RdD} {ss : List Int} (h : ∀ s ∈ ss, InS (D.many : Nat) s) : ss.find? (fun s => !decide (InS (D.many : Nat) s)) = none := List.find?_eq_none.mpr fun s hs => by simpa using h s hs
theorem kin_nm {z : Str} (h : IsNm z) : Kin z := ⟨by have := h.2.1; show z.cps.size ≤ 100; omega, fun c hc => Nat.lt_of_lt_of_le (m := 128) (by have := h.2.2 c hc; omega) (by decide)⟩
theorem nI_iV (l : List Nat) : nI l = iV (l.map fun i => ((i : Nat) : Int)) := by
  unfold nI iV
  rw [List.map_map]
  rfl
theorem toNat_map (l : List Nat) : (l.map fun i => ((i : Nat) : Int)).map Int.toNat = l := by
  rw [List.map_map]
  conv => rhs; rw [← List.map_id l]
  exact List.map_congr_left fun i _ => Int.toNat_natCast i
def spSteps (P : Program) (w : World) (C CR : Addr) : Sp := fun vs H Q _ => ∃ (kd a u b : Addr) (ts : List Addr) (rows : List Row) (D : RdD) (ex : List V), vs = [.ref kd, .ref a, .ref u] ∧ H kd = some (.tup (ts.map V.ref)) ∧ TupsAt H ts rows ∧ ROk 4 rows ∧ D.Ok rows ∧ LrA P w H a D ex ∧ RdAt C CR H u b rows D ∧ (∀ q ∈ rows, ∀ i, i < q.2.toNat → D.many ^ i ≤ 4000) ∧ ∀ H', Same H H' → Q (.bl true) H'
/-- what is told of a step -/
noncomputable def StvK (rows : List Row) (D : RdD) (z : Str) (ss : List Int) : List V := match stpDue rows D z ss with
  | .kind => [.str "UnknownKind", .str z, .bl true]
  | .wrong => [.str "WrongBranches", .int ((wR rows z : Nat) : Int), .int ((ss.length : Nat) : Int), .bl true]
  | .no i => [.str "NoState", .int i, .bl true]
  | .ok => [.str "state", .int ((D.stp z (ss.map Int.toNat) : Nat) : Int)]
def spStepTold (C CR : Addr) : Sp := fun vs H Q _ => ∃ (u b bt : Addr) (z : Str) (ss : List Int) (rows : List Row) (D : RdD), vs = [.ref u, .str z, .ref bt] ∧ RdAt C CR H u b rows D ∧ ROk 4 rows ∧ D.Ok rows ∧ Kin z ∧ H bt = some (.tup (iV ss)) ∧ ss.length ≤ 100 ∧ ∀ H' p, Same H H' → H' p = some (.tup (StvK rows D z ss)) → Q (.ref p) H'
abbrev N_law_steps_right : List Str := ["kinds", "drawn", "reader", "name", "size", "below"]
theorem sc_law_steps_right : FnScope N_law_steps_right ["kinds", "drawn", "reader"] (defScope s_law_steps_right) := ⟨rfl, rfl, rfl, by decide +kernel, rfl, by decide +kernel, by decide +kernel⟩
abbrev N_law_step_told : List Str := ["reader", "name", "below", "strange", "wrong", "far"]
theorem sc_law_step_told : FnScope N_law_step_told ["reader", "name", "below"] (defScope s_law_step_told) := ⟨rfl, rfl, rfl, by decide +kernel, rfl, by decide +kernel, by decide +kernel⟩
section
variable {P : Program} {w : World} {K : PySem.W.Frag} {mg : Str → Option Value} {base : Heap} {C CR N CY : Addr} {A : XA} {B : XB}
theorem ok_stepsRight (T : Bl mg) (BR : RdT K CR) (c_law_tuples : DefOk P w K mg base CX0 1 "_law_tuples" spTuples6) (c_law_same : DefOk P w K mg base CX0 4 "_law_same" (spSam6 4)) (c_step : StepOk P w K mg base C CR N A) (D : Def0 K mg "_law_steps_right" s_law_steps_right) : DefOk P w K mg base CX0 5 "_law_steps_right" (spSteps P w C CR) := by
  refine D.ok sc_law_steps_right (fun vs H Q E h => by obtain ⟨kd, a, u, b, ts, rows, D, ex, rfl, _⟩ := h; rfl) (fun _ _ _ _ _ _ us hl => match us, hl with | [_, _, _], _ => rfl) (fun f cdv A' outer s0 H vs Q E hr h => ?_)
  obtain ⟨kd, a, u, b, ts, rows, D, ex, rfl, hk, hT, R, hD, hA, hRd, hpow, key⟩ := h
  have hu := hu_of hr
  have hu2 := hr.units
  have hu2 : (A'.deeper (envOfC "_law_steps_right" (defScope s_law_steps_right) s0.heap.objs.size f cdv)).units + 2 < cLine := by omega
  have r4 := R.len
  have m40 := hD.m3
  obtain ⟨fM, M_step, F_step⟩ := c_step
  refine ⟨_, (pss_cons (ps_for PassesOwn.never rfl (pi_tup (pv 0)) (pg_tup (by rfl) (pgs_cons (pg_name (i := 3) sc_law_steps_right.nd rfl (Or.inl rfl)) (pgs_cons (pg_name (i := 4) sc_law_steps_right.nd rfl (Or.inl rfl)) pgs_nil)))
      (pss_one (ps_for PassesOwn.never rfl (pi_list (pe_d c_law_tuples (hr.mono (by decide)) pass0 (pa_cons (pe_ix ix_list (pv 1) pe_int (fun _ _ => rfl)) (pa_cons (pv 4) pa_nil)))) (pg_name (i := 5) sc_law_steps_right.nd rfl (Or.inl rfl))
        (pss_one (ps_if (pt_not (pt_val (pe_d c_law_same (hr.mono (by decide)) pass0 (pa_cons (pe_methR (pv 2) BR.cl M_step F_step (hr.mono (by decide)) passL (pa_cons (pv 3) (pa_cons (pv 5) pa_nil))) (pa_cons (pe_nget hu2 (pe_ix ix_list (pv 1) pe_int (fun _ _ => rfl)) (pe_tup (pa_cons (pv 3) (pa_cons (pv 5) pa_nil))) (fun _ _ => rfl)) pa_nil)))))
          (pss_one (ps_ret pe_bl))
          pss_nil)))))
    (pss_one (ps_ret pe_bl))), ?_⟩
  obtain ⟨tR, tM, tS, vR, a1, a2, a3, a4, a5⟩ := id hA
  have aat : ∀ (j : Nat) (v : V), ([.int ((D.many : Nat) : Int), .ref tR, .int ((D.rest : Nat) : Int), .ref tM, .ref tS] : List V)[j]? = some v → ([.int ((D.many : Nat) : Int), .ref tR, .int ((D.rest : Nat) : Int), .ref tM, .ref tS] ++ ex : List V)[j]? = some v := fun j v h => by
    rw [List.getElem?_append_left (List.getElem?_eq_some_iff.mp h).1]
    exact h
  obtain ⟨rx, rd, rm, rds, hr1, hB, hr3, hr4⟩ := id hRd
  refine ⟨_, rfl, kd, rfl, ⟨_, SqT.of hk⟩, for_tup (xs := ts.map V.ref) (fun i σ H' => ∃ (x3 x4 x5 : Option V), σ = [some (.ref kd), some (.ref a), some (.ref u), x3, x4, x5] ∧ Same H H') ⟨none, none, none, rfl, Same.refl H⟩ (fun i σ H' _ ⟨_, _, _, _, q⟩ => SqT.of (q _ _ hk)) ?_ ?_⟩
  · rintro i v σ H3 hv ⟨x3, x4, x5, rfl, s3⟩
    obtain ⟨t, ht, rfl⟩ := get_map_r hv
    have hil : i < rows.length := by rw [← hT.1]; exact (List.getElem?_eq_some_iff.mp ht).1
    have hq := List.getElem?_eq_getElem hil
    have hqm := List.getElem_mem hil
    have htt := s3 _ _ (hT.2 i t _ ht hq)
    generalize rows[i] = q at hq hqm htt
    have hwd := R.wd q hqm
    have eq2 : q.2 = ((q.2.toNat : Nat) : Int) := by omega
    have hw3 : q.2.toNat ≤ 3 := by rw [← wR_of R hqm]; exact wR_le R _
    have hzn : HasN rows q.1 := ⟨q, hqm, rfl⟩
    refine ⟨t, _, rfl, SqT.of htt, rfl, _, _, rfl, _, _, rfl, rfl, ?_⟩
    refine ⟨_, rfl, a, _, _, _, rfl, rfl, SqL.of (s3 _ _ a1), at_ofG (j := 0) rfl (aat 0 _ rfl), _, rfl, D.many, q.2.toNat, by show [V.int _, V.int q.2] = _; rw [← eq2], by omega, hw3, hpow q hqm, fun H4 Lw s4 nLw WW => ?_⟩
    obtain ⟨vs', hLw, PW⟩ := WW
    have PW : PlAt nI H4 vs' (wq D.many q) := PW
    have s04 := s3.trans s4
    refine ⟨Lw, rfl, ⟨_, SqL.of hLw⟩, for_list (xs := vs'.map V.ref) (fun k σ H' => ∃ (x5 : Option V), σ = [some (.ref kd), some (.ref a), some (.ref u), some (.str q.1), some (.int q.2), x5] ∧ Same H4 H') ⟨x5, rfl, Same.refl H4⟩ (fun k σ H' _ ⟨_, _, q⟩ => SqL.of (q _ _ hLw)) ?_ ?_⟩
    · rintro k v σ H5 hv ⟨y5, rfl, s5⟩
      obtain ⟨y, hy, rfl⟩ := get_map_r hv
      have hkl : k < (wq D.many q).length := by rw [← PW.1]; exact (List.getElem?_eq_some_iff.mp hy).1
      have hss := List.getElem?_eq_getElem hkl
      have hsm := List.getElem_mem hkl
      generalize (wq D.many q)[k] = ss at hss hsm
      obtain ⟨q1, q2⟩ := rep_mem.mp (show ss ∈ ways (List.replicate q.2.toNat (List.range D.many)) from hsm)
      have hin : ∀ s ∈ ss, s < D.many := fun s hs => List.mem_range.mp (q2 s hs)
      have hval := hD.val R hzn (z := q.1) (ss := ss) (by rw [q1, wR_of R hqm]) hin
      have hyt := s5 _ _ (PW.2 k y ss hy hss)
      have s05 := s04.trans s5
      have hso : stpDue rows D q.1 (ss.map fun i => ((i : Nat) : Int)) = .ok := stp_okk hzn (by rw [List.length_map, q1, wR_of R hqm]) (stp_all fun s hs => by
        obtain ⟨n, hn, rfl⟩ := List.mem_map.mp hs
        have := hin n hn
        exact ⟨by omega, by omega⟩)
      refine ⟨_, rfl, u, rx, _, rfl, s05 _ _ hr1, lk_none _ _ _ _ _ _ (by decide +kernel) (by decide +kernel) (by decide +kernel) (by decide +kernel) (by decide +kernel), _, rfl, _, rfl, u, b, y, q.1, ss.map fun i => ((i : Nat) : Int), rows, D, rfl, hRd.same s05, R, hD, kin_nm (R.nm q hqm), by rw [← nI_iV]; exact hyt, by rw [List.length_map, q1]; omega, (fun e => by rw [hso] at e; cases e), (fun e => by rw [hso] at e; cases e), (fun _ e => by rw [hso] at e; cases e), fun _ H6 s6 => ?_⟩
      rw [toNat_map]
      have s56 := s5.trans s6
      have s06 := s05.trans s6
      refine ⟨_, rfl, a, _, _, _, rfl, rfl, SqL.of (s06 _ _ a1), at_ofG (j := 4) rfl (aat 4 _ rfl), _, rfl, _, rfl, le_line (show 2 ≤ 10000000 by decide), fun pk hpk => ?_⟩
      have s7 := (Same.refl H6).upd_new (o := .tup [.str q.1, .ref y]) hpk
      have p7 : (upd H6 pk (.tup [.str q.1, .ref y])) pk = some (.tup [.str q.1, .ref y]) := upd_same
      generalize upd H6 pk (.tup [.str q.1, .ref y]) = H7 at s7 p7
      have nk : NKAt H7 (nkR (q.1, ss)) pk := ⟨y, p7, by
        rw [s7 _ _ (s6 _ _ hyt)]
        show _ = some (HO.tup ((tkey ss).map kV))
        rw [tkey_V]⟩
      refine ⟨tS, pk, _, _, _, rfl, rfl, a5.sm (fun p o h => s7 _ _ (s06 _ _ h)), nk, hval, ?_⟩
      exact ⟨_, _, rfl, .inl ⟨_, rfl, rfl⟩, fun H8 s8 => ⟨_, rfl, ifn (by decide) ⟨_, rfl, (s56.trans s7).trans s8⟩⟩⟩
    · rintro σ H5 ⟨y5, rfl, s5⟩
      exact ⟨_, _, _, rfl, s04.trans s5⟩
  · rintro σ H3 ⟨x3, x4, x5, rfl, s3⟩
    exact key _ s3
theorem ok_stepTold (T : Bk mg) (BR : RdT K CR) (kk : K5 K mg A B N CY) (c_step : StepOk P w K mg base C CR N A) (D : Def0 K mg "_law_step_told" s_law_step_told) : DefOk P w K mg base CX0 4 "_law_step_told" (spStepTold C CR) := by
  refine D.ok sc_law_step_told (fun vs H Q E h => by obtain ⟨u, b, bt, z, ss, rows, D, rfl, _⟩ := h; rfl) (fun _ _ _ _ _ _ us hl => match us, hl with | [_, _, _], _ => rfl) (fun f cdv A' outer s H vs Q E hr h => ?_)
  obtain ⟨u, b, bt, z, ss, rows, D, rfl, hRd, R, hD, hz, hbt, l100, key⟩ := h
  have n_UnknownKind : ∀ {X : Cx}, X.mg = mg → Gl X "UnknownKind" → Names X "UnknownKind" (.ref A.U) := fun e g => ⟨g, by decide, .inl (by rw [e]; exact kk.u.g)⟩
  have n_WrongBranches : ∀ {X : Cx}, X.mg = mg → Gl X "WrongBranches" → Names X "WrongBranches" (.ref A.W) := fun e g => ⟨g, by decide, .inl (by rw [e]; exact kk.w.g)⟩
  have n_NoState : ∀ {X : Cx}, X.mg = mg → Gl X "NoState" → Names X "NoState" (.ref N) := fun e g => ⟨g, by decide, .inl (by rw [e]; exact kk.n.g)⟩
  have X_UnknownKind := kk.u.xo
  have X_WrongBranches := kk.w.xo
  have X_NoState := kk.n.xo
  have x_YardError := kk.y
  obtain ⟨f1, M_step, F_step⟩ := c_step
  refine ⟨_, (pss_one (ps_try_as_many rfl rfl sc_law_step_told.nd (fun W pn xe tk po => (pss_one (ps_ret (pe_tup (pa_cons pe_str (pa_cons (pe_methZ (pv 0) BR.cl M_step F_step (hr.mono (by decide)) (fun _ => passAt tk _) (pa_cons (pv 1) (pa_cons (pv 2) pa_nil))) pa_nil)))))) (HdsAs.cons (i := 3) rfl rfl (n_UnknownKind rfl rfl) (fun a oe cls d pn hz hf => (pss_one (ps_ret (pe_tup (pa_cons pe_str (pa_cons (pe_xf X_UnknownKind.xf (X_UnknownKind.no "kind" (by decide +kernel)) hz hf (pv 3)) (pa_cons (pe_callB (call_isD hz hf) (by rfl) T.b_isinstance (by decide +kernel) (pa_cons (pv 3) (pa_cons (pe_X (by rfl) x_YardError) pa_nil))) pa_nil))))))) (HdsAs.cons (i := 4) rfl rfl (n_WrongBranches rfl rfl) (fun a oe cls d pn hz hf => (pss_one (ps_ret (pe_tup (pa_cons pe_str (pa_cons (pe_xf X_WrongBranches.xf (X_WrongBranches.no "wanted" (by decide +kernel)) hz hf (pv 4)) (pa_cons (pe_xf X_WrongBranches.xf (X_WrongBranches.no "given" (by decide +kernel)) hz hf (pv 4)) (pa_cons (pe_callB (call_isD hz hf) (by rfl) T.b_isinstance (by decide +kernel) (pa_cons (pv 4) (pa_cons (pe_X (by rfl) x_YardError) pa_nil))) pa_nil)))))))) (HdsAs.cons (i := 5) rfl rfl (n_NoState rfl rfl) (fun a oe cls d pn hz hf => (pss_one (ps_ret (pe_tup (pa_cons pe_str (pa_cons (pe_xf X_NoState.xf (X_NoState.no "state" (by decide +kernel)) hz hf (pv 5)) (pa_cons (pe_callB (call_isD hz hf) (by rfl) T.b_isinstance (by decide +kernel) (pa_cons (pv 5) (pa_cons (pe_X (by rfl) x_YardError) pa_nil))) pa_nil))))))) .nil))))), ?_⟩
  obtain ⟨rx, rd, rm, rds, hr1, hB, hr3, hr4⟩ := id hRd
  unfold StvK at key
  refine ⟨_, rfl, u, rx, _, rfl, hr1, lk_none _ _ _ _ _ _ (by decide +kernel) (by decide +kernel) (by decide +kernel) (by decide +kernel) (by decide +kernel), _, rfl, _, rfl, u, b, bt, z, ss, rows, D, rfl, hRd, R, hD, hz, hbt, l100, fun e => ?_, fun e => ?_, fun i e => ?_, fun e => ?_⟩ <;> rw [e] at key
  · intro H1 dd s1 hd
    refine ⟨true, kk.u.xo.me, fun _ a ha => ?_, fun e => nomatch e⟩
    have s2 := s1.upd_new (o := .xd (Ex.fs (.kind z))) hd
    refine ⟨_, rfl, rfl, rfl, dd, _, _, rfl, upd_same, fs_one _ _, ?_⟩
    refine ⟨_, rfl, _, dd, _, _, .ref CY, _, rfl, rfl, rfl, upd_same, kk.u.ex, fun _ h => h, kk.u.ky, ?_⟩
    exact ⟨le_line (show 3 ≤ 10000000 by decide), fun q hq => key _ q (s2.upd_new hq) upd_same⟩
  · intro H1 dd s1 hd
    refine ⟨false, kk.wu, (fun e => nomatch e), fun _ => ⟨true, kk.w.xo.me, fun _ a ha => ?_, fun e => nomatch e⟩⟩
    have s2 := s1.upd_new (o := .xd (Ex.fs (.wrong (wR rows z) ss.length))) hd
    refine ⟨_, rfl, rfl, rfl, dd, _, _, rfl, upd_same, (fs_wr _ _).1, _, rfl, rfl, rfl, dd, _, _, rfl, upd_same, (fs_wr _ _).2, ?_⟩
    refine ⟨_, rfl, _, dd, _, _, .ref CY, _, rfl, rfl, rfl, upd_same, kk.w.ex, fun _ h => h, kk.w.ky, ?_⟩
    exact ⟨le_line (show 4 ≤ 10000000 by decide), fun q hq => key _ q (s2.upd_new hq) upd_same⟩
  · intro H1 dd s1 hd
    refine ⟨false, kk.nu, (fun e => nomatch e), fun _ => ⟨false, kk.nw, (fun e => nomatch e), fun _ => ⟨true, kk.n.xo.me, fun _ a ha => ?_, fun e => nomatch e⟩⟩⟩
    have s2 := s1.upd_new (o := .xd (xfs ["state"] [.int i] [])) hd
    refine ⟨_, rfl, rfl, rfl, dd, _, _, rfl, upd_same, fs_one _ _, ?_⟩
    refine ⟨_, rfl, _, dd, _, _, .ref CY, _, rfl, rfl, rfl, upd_same, kk.n.ex, fun _ h => h, kk.n.ky, ?_⟩
    exact ⟨le_line (show 3 ≤ 10000000 by decide), fun q hq => key _ q (s2.upd_new hq) upd_same⟩
  · intro H1 s1
    exact ⟨le_line (show 2 ≤ 10000000 by decide), fun q hq => key _ q (s1.upd_new hq) upd_same⟩
end
end Sh
end
section
set_option Elab.async false
set_option linter.all false
set_option maxRecDepth 100000
set_option maxHeartbeats 16000000
namespace Sh
open PySem PySem.Spec PyProof.Rows L2 NdefX LamX
open C8 (pss_cut tCut)
open Evl (ixN_nat)
/-- all but lists stays -/
def SameN (H H' : Hp) : Prop := ∀ b o, H b = some o → (∀ xs, o ≠ .lst xs) → H' b = some o
theorem SameN.of_kp {H H' : Hp} {x : Addr} (hx : BxT H x) (k : Kp x H H') : SameN H H' := fun b o h n => k b o h (fun e => by
  subst e
  obtain ⟨p, q, r, hb⟩ := hx
  rw [hb] at h
  exact n _ (Option.some.inj h).symm)
theorem BedAt.sn {C : Addr} {H H' : Hp} {b : Addr} {rows : List Row} (B : BedAt C H b rows) (k : SameN H H') : BedAt C H' b rows := by
  obtain ⟨dx', r, kk, w, rk, ts, h1, h2, h3, h4, h5, h6⟩ := B
  exact ⟨dx', r, kk, w, rk, ts, k _ _ h1 (fun _ e => by unfold bedF at e; cases e), k _ _ h2 (fun _ e => nomatch e), h3.keep (fun t xs q => k _ _ q (fun _ e => nomatch e)), k _ _ h4 (fun _ e => nomatch e), k _ _ h5 (fun _ e => nomatch e), k _ _ h6 (fun _ e => nomatch e)⟩
theorem RdAt.sn {C CR : Addr} {H H' : Hp} {p b : Addr} {rows : List Row} {D : RdD} (x : RdAt C CR H p b rows D) (k : SameN H H') : RdAt C CR H' p b rows D := by
  obtain ⟨dx, d, mt, ds, h1, h2, h3, h4⟩ := x
  exact ⟨dx, d, mt, ds, k _ _ h1 (fun _ e => by unfold rdF at e; cases e), h2.sn k, ⟨k _ _ h3.at_ (fun _ e => nomatch e), h3.len, h3.nd, h3.nin, fun i n a q1 q2 => k _ _ (h3.row i n a q1 q2) (fun _ e => nomatch e)⟩, k _ _ h4 (fun _ e => nomatch e)⟩
theorem ndAt_sn {P : Program} {w : World} {H H' : Hp} {a : Addr} {kvs : List (NKey × V)} (x : NdAt P w H a kvs) (k : SameN H H') : NdAt P w H' a kvs := by
  obtain ⟨h1, h2, xs, h3, h4⟩ := x
  exact ⟨h1, h2, xs, h3.keeps (fun b ys h => k _ _ h (fun _ e => nomatch e)), k _ _ h4 (fun _ e => by unfold NdO at e; cases e)⟩
theorem lr_ne {P : Program} {w : World} {H : Hp} {a x : Addr} {D : RdD} {ex : List V} (h : LrA P w H a D ex) (hx : BxT H x) : a ≠ x := fun e => by
  obtain ⟨tR, tM, tS, us, h1, _⟩ := h
  obtain ⟨p, q, r, hb⟩ := hx
  rw [e, hb] at h1
  have := congrArg (fun o => match o with | some (HO.lst l) => l.length | _ => 0) h1
  simp at this
theorem LrA.kx5 {P : Program} {w : World} {H H' : Hp} {a x : Addr} {D : RdD} {ex : List V} (h : LrA P w H a D ex) (hx : BxT H x) (k : Kp x H H') : LrA P w H' a D ex := by
  have hn := lr_ne h hx
  obtain ⟨tR, tM, tS, us, h1, h2, h3, h4, h5⟩ := h
  have sn := SameN.of_kp hx k
  exact ⟨tR, tM, tS, us, k _ _ h1 hn, sn _ _ h2 (fun _ e => nomatch e), h3.keep (fun t ys q => sn _ _ q (fun _ e => nomatch e)), sn _ _ h4 (fun _ e => nomatch e), ndAt_sn h5 sn⟩
theorem catA_i {K : PySem.W.Frag} {H : Hp} {a b : Addr} {l m : List Int} {Q : VK} (ha : H a = some (.tup (iV l))) (hb : H b = some (.tup (iV m))) (hl : l.length + m.length ≤ 10000000) (k : ∀ r H', Same H H' → H' r = some (.tup (iV (l ++ m))) → Q (.ref r) H') : rCatA K (.ref a) (.ref b) H Q := by
  refine catA_n ha hb (by rw [iV_len, iV_len]; exact hl) fun r H' s h => k r H' s ?_
  rw [h, iV_app]
theorem dp_intsK {K : PySem.W.Frag} {H : Hp} : ∀ c : List Int, DpAll K H (iV c) (c.map PyData.int)
  | [] => .nil
  | _ :: c => .cons (.int _) (dp_intsK c)
theorem shp_ints (c : List Int) : SeqAt.shaped (.list (c.map PyData.int)) = true := shp_of fun d h => by
  obtain ⟨i, _, rfl⟩ := List.mem_map.mp h
  exact ⟨rfl, by show 0 ≤ 63; decide⟩
def outL (m : Nat) (ss : List Int) : List Int := ss.filter fun s => !decide (InS (m : Nat) s)
def spStepRight (P : Program) (w : World) (C CR : Addr) : Sp := fun vs H Q _ => ∃ (x kd a u b : Addr) (ts : List Addr) (rows : List Row) (D : RdD) (ex : List V), vs = [.ref x, .ref kd, .ref a, .ref u] ∧ BxT H x ∧ H kd = some (.tup (ts.map V.ref)) ∧ TupsAt H ts rows ∧ ROk 4 rows ∧ D.Ok rows ∧ LrA P w H a D ex ∧ RdAt C CR H u b rows D ∧ ∀ H', Kp x H H' → BxT H' x → Q (.bl true) H'
abbrev N_law_step_right : List Str := ["box", "kinds", "drawn", "reader", "pair", "name", "below", "spot", "outside", "due", "state"]
theorem sc_law_step_right : FnScope N_law_step_right ["box", "kinds", "drawn", "reader"] (defScope s_law_step_right) := ⟨rfl, rfl, rfl, by decide +kernel, rfl, by decide +kernel, by decide +kernel⟩
section
variable {P : Program} {w : World} {K : PySem.W.Frag} {mg : Str → Option Value} {base : Heap} {C CR : Addr}
theorem ok_stepRight (T : Bl mg) (b_max : mg "max" = none) (c_law_take : DefOk P w K mg base CX0 1 "_law_take" spTake) (c_law_stranger : DefOk P w K mg base CX0 2 "_law_stranger" spStranger) (c_law_same : DefOk P w K mg base CX0 4 "_law_same" (spSam6 4)) (c_law_step_told : DefOk P w K mg base CX0 4 "_law_step_told" (spStepTold C CR)) (D : Def0 K mg "_law_step_right" s_law_step_right) : DefOk P w K mg base CX0 5 "_law_step_right" (spStepRight P w C CR) := by
  refine D.ok sc_law_step_right (fun vs H Q E h => by obtain ⟨x, kd, a, u, b, ts, rows, D, ex, rfl, _⟩ := h; rfl) (fun _ _ _ _ _ _ us hl => match us, hl with | [_, _, _, _], _ => rfl) (fun f cdv A' outer s0 H vs Q E hr h => ?_)
  obtain ⟨x, kd, a, u, b, ts, rows, D, ex, rfl, hx, hk, hT, R, hD, hA, hRd, key⟩ := h
  have hu := hu_of hr
  have hu2 := hr.units
  have hu2 : (A'.deeper (envOfC "_law_step_right" (defScope s_law_step_right) s0.heap.objs.size f cdv)).units + 2 < cLine := by omega
  have r1 := R.pos
  have r4 := R.len
  have m40 := hD.m3
  have m1 := hD.m1
  have nkx := hx.ne_tup hk
  have nax := lr_ne hA hx
  have lts : (ts.map V.ref).length = rows.length := by rw [List.length_map, hT.1]
  refine ⟨_, (pss_cons (ps_set (i := 4) sc_law_step_right.nd rfl (Or.inl rfl) (pe_ix ix_tup (pv 1) (pe_d c_law_take (hr.mono (by decide)) pass0 (pa_cons (pv 0) (pa_cons (pe_callB call_len_seq (by rfl) T.b_len boot_len (pa_cons (pv 1) pa_nil)) pa_nil))) (fun _ _ => rfl)))
    (pss_cons (ps_set (i := 5) sc_law_step_right.nd rfl (Or.inl rfl) (pe_ix ix_tup (pv 4) pe_int (fun _ _ => rfl)))
    (pss_cut (ps_if (pt_cmpR op_eq (pe_d c_law_take (hr.mono (by decide)) pass0 (pa_cons (pv 0) (pa_cons pe_int pa_nil))) pe_int (nomark _))
      (pss_one (ps_set (i := 5) sc_law_step_right.nd rfl (Or.inl rfl) (pe_d c_law_stranger (hr.mono (by decide)) pass0 (pa_cons (pv 0) (pa_cons (pv 1) pa_nil)))))
      pss_nil)
    (pss_cons (ps_set (i := 6) sc_law_step_right.nd rfl (Or.inl rfl) (pe_tup pa_nil))
    (pss_cons (ps_for PassesOwn.never rfl (pi_range1 (by rfl) T.b_range (pa_cons (pe_callB (call_max2 rfl) (by rfl) b_max (by decide +kernel) (pa_cons pe_int (pa_cons (pe_op op_add (pe_ix ix_tup (pv 4) pe_int (fun _ _ => rfl)) (pe_ix ix_list (pe_lst (pa_cons pe_int (pa_cons pe_int (pa_cons pe_int (pa_cons (pe_un un_neg pe_int) pa_nil))))) (pe_d c_law_take (hr.mono (by decide)) pass0 (pa_cons (pv 0) (pa_cons pe_int pa_nil))) (fun _ _ => rfl))) pa_nil))) pa_nil)) (pg_name (i := 7) sc_law_step_right.nd rfl (Or.inl rfl))
      (pss_one (ps_set (i := 6) sc_law_step_right.nd rfl (Or.inl rfl) (pe_op op_catA (pv 6) (pe_tup (pa_cons (pe_op op_sub (pe_d c_law_take (hr.mono (by decide)) pass0 (pa_cons (pv 0) (pa_cons (pe_op op_add (pe_ix ix_list (pv 2) pe_int (fun _ _ => rfl)) pe_int) pa_nil))) pe_int) pa_nil))))))
    (pss_cons (ps_setLc (i := 8) (own := [("state", 10)]) (g := (gName 10)) rfl sc_law_step_right.nd rfl rfl (sw_true rfl rfl rfl (by decide +kernel)) (pi_tup (pv 6)) (blkOk_by (N := N_law_step_right) (sc := defScope s_law_step_right) (by decide +kernel)) (fun _ _ _ _ _ => (pg_name (i := 10) sc_law_step_right.nd rfl (Or.inl rfl))) (fun _ _ _ _ _ => (pts_one (pt_not (pt_chain op_le op_lt pe_int (pv 10) (pe_ix (show IxR _ (rIxL K) from ix_list) (pv 2) pe_int (fun _ _ => rfl)))))) (fun _ _ _ _ _ => (pv 10)))
    (pss_cut (ps_if (pt_cmpR op_ne (pv 5) (pe_ix ix_tup (pv 4) pe_int (fun _ _ => rfl)) (nomark _))
      (pss_one (ps_set (i := 9) sc_law_step_right.nd rfl (Or.inl rfl) (pe_tup (pa_cons pe_str (pa_cons (pv 5) (pa_cons pe_bl pa_nil))))))
      (pss_one (ps_if (pt_cmpR op_ne (pe_callB call_len_seq (by rfl) T.b_len boot_len (pa_cons (pv 6) pa_nil)) (pe_ix ix_tup (pv 4) pe_int (fun _ _ => rfl)) (nomark _))
        (pss_one (ps_set (i := 9) sc_law_step_right.nd rfl (Or.inl rfl) (pe_tup (pa_cons pe_str (pa_cons (pe_ix ix_tup (pv 4) pe_int (fun _ _ => rfl)) (pa_cons (pe_callB call_len_seq (by rfl) T.b_len boot_len (pa_cons (pv 6) pa_nil)) (pa_cons pe_bl pa_nil)))))))
        (pss_one (ps_if (pt_cmpR (op_neD hr.units) (pv 8) (pe_lst pa_nil) (nomark _))
          (pss_one (ps_set (i := 9) sc_law_step_right.nd rfl (Or.inl rfl) (pe_tup (pa_cons pe_str (pa_cons (pe_ix ix_list (pv 8) pe_int (fun _ _ => rfl)) (pa_cons pe_bl pa_nil))))))
          (pss_one (ps_set (i := 9) sc_law_step_right.nd rfl (Or.inl rfl) (pe_tup (pa_cons pe_str (pa_cons (pe_nget hu2 (pe_ix ix_list (pv 2) pe_int (fun _ _ => rfl)) (pe_tup (pa_cons (pv 5) (pa_cons (pv 6) pa_nil))) (fun _ _ => rfl)) pa_nil))))))))))
    (pss_one (ps_ret (pe_d c_law_same (hr.mono (by decide)) pass0 (pa_cons (pe_d c_law_step_told (hr.mono (by decide)) pass0 (pa_cons (pv 3) (pa_cons (pv 5) (pa_cons (pv 6) pa_nil)))) (pa_cons (pv 9) pa_nil)))))))))))), ?_⟩
  refine ⟨_, rfl, _, rfl, _, rfl, kd, _, rfl, .inr (SqT.of hk), x, _, rfl, hx, by rw [lts]; omega, by rw [lts]; omega, fun H1 d k1 b1 d1 => ?_⟩
  rw [lts] at d1
  have hd : d < rows.length := by omega
  obtain ⟨t, t1, t2, t3⟩ := (hT.keep (hx.tk k1)).at hd
  have hqm := List.getElem_mem hd
  generalize rows[d] = q at t3 hqm
  have hzn : HasN rows q.1 := ⟨q, hqm, rfl⟩
  have hwd := R.wd q hqm
  have hw := wR_row R hqm
  refine ⟨kd, _, _, _, rfl, rfl, SqT.of (k1 _ _ hk nkx), at_ofG (j := d) rfl t2, ?_⟩
  refine ⟨_, rfl, t, _, _, _, rfl, rfl, SqT.of t3, atI_nat (j := 0) rfl, ?_⟩
  -- the name
  refine ⟨fun σ H' => ∃ z : Str, σ = [some (.ref x), some (.ref kd), some (.ref a), some (.ref u), some (.ref t), some (.str z), none, none, none, none, none] ∧ Kp x H1 H' ∧ BxT H' x ∧ Kin z ∧ (z = q.1 ∨ ¬ HasN rows z), ?_, ?_⟩
  · refine ⟨_, rfl, x, 4, rfl, b1, by decide, by decide, fun H2 e k2 b2 he => ⟨rfl, _, rfl, ite2 (fun c => ?_) (fun c => ⟨q.1, rfl, k2, b2, kin_nm (R.nm q hqm), .inl rfl⟩)⟩⟩
    have k02 := k1.trans k2
    refine ⟨_, rfl, _, rfl, x, kd, ts, rows, rfl, b2, k02 _ _ hk nkx, hT.keep (hx.tk k02), R, fun H3 z k3 b3 hz hK => ⟨z, rfl, k2.trans k3, b3, hK, .inr hz⟩⟩
  rintro σ H2 ⟨z, rfl, k2, b2, hK, hz⟩
  have k02 := k1.trans k2
  have t3 := b1.tk k2 _ _ t3
  refine ⟨le_line (show 0 ≤ 10000000 by decide), fun p0 hp0 => ?_⟩
  have s3 := (Same.refl H2).upd_new (o := .tup []) hp0
  have e3 : (upd H2 p0 (.tup [])) p0 = some (.tup (iV [])) := upd_same
  have b3 := b2.new (o := .tup []) hp0
  have k03 := k02.trans (Kp.same s3)
  have t3 := s3 _ _ t3
  generalize upd H2 p0 (.tup []) = H3 at s3 e3 b3 k03 t3
  refine ⟨_, rfl, t, _, _, _, rfl, rfl, SqT.of t3, atI_nat (j := 1) rfl, _, rfl, le_line (show 4 ≤ 10000000 by decide), fun L hL => ?_⟩
  have nLx : L ≠ x := b3.ne hL
  have sL := (Same.refl H3).upd_new (o := .lst [.int 0, .int 0, .int 1, .int (-1)]) hL
  have eL : (upd H3 L (.lst [.int 0, .int 0, .int 1, .int (-1)])) L = some (.lst (([0, 0, 1, -1] : List Int).map V.int)) := upd_same
  have b4 := b3.new (o := .lst [.int 0, .int 0, .int 1, .int (-1)]) hL
  have k04 := k03.trans (Kp.same sL)
  have t3 := sL _ _ t3
  have e3 := sL _ _ e3
  refine ⟨_, rfl, x, 4, rfl, b4, by decide, by decide, fun H5 e k5 b5 he => ?_⟩
  obtain ⟨dl, hm, dl0, dl1⟩ := pickI (l := [0, 0, 1, -1]) (fun z => -1 ≤ z ∧ z ≤ 1) (by decide) (e := e) (by show e < 4; omega)
  have t3 := b4.tk k5 _ _ t3
  have e3 := b4.tk k5 _ _ e3
  have k05 := k04.trans k5
  refine ⟨L, _, _, _, rfl, rfl, SqL.of (k5 _ _ eL nLx), at_ofG (j := e) rfl hm, _, _, rfl, rfl, _, _, rfl, _, rfl, ?_⟩
  have hn : (if q.2 + dl > 0 then q.2 + dl else 0) ≤ 4 ∧ 0 ≤ (if q.2 + dl > 0 then q.2 + dl else 0) := by
    split <;> omega
  refine ⟨by omega, by omega, ?_⟩
  have hx : BxT H5 x := b5
  refine for_range (n := (if q.2 + dl > 0 then q.2 + dl else 0).toNat) (fun i σ H' => ∃ (x7 : Option V) (p : Addr) (ss : List Int), σ = [some (.ref x), some (.ref kd), some (.ref a), some (.ref u), some (.ref t), some (.str z), some (.ref p), x7, none, none, none] ∧ Kp x H5 H' ∧ BxT H' x ∧ H' p = some (.tup (iV ss)) ∧ ss.length = i) ⟨none, p0, [], rfl, Kp.refl x H5, b5, e3, rfl⟩ ?_ ?_
  · rintro i σ H6 hi ⟨x7, p, ss, rfl, k6, b6, e6, ls⟩
    have hA6 := (hA.kx5 ‹BxT H x› (k05.trans k6))
    obtain ⟨tR, tM, tS, vR, a1, a2, a3, a4, a5⟩ := hA6
    refine ⟨_, rfl, _, rfl, _, rfl, a, _, _, _, rfl, rfl, SqL.of a1, at_ofG (j := 0) rfl (by rw [List.getElem?_append_left (by show 0 < 5; decide)]; rfl), _, _, rfl, rfl, x, _, rfl, b6, by omega, by omega, fun H7 g k7 b7 hg => ?_⟩
    refine ⟨_, _, rfl, rfl, le_line (show 1 ≤ 10000000 by decide), fun p1 hp1 => ?_⟩
    have s8 := (Same.refl H7).upd_new (o := .tup [.int (((g : Nat) : Int) - 1)]) hp1
    have e8 : (upd H7 p1 (.tup [.int (((g : Nat) : Int) - 1)])) p1 = some (.tup (iV [((g : Nat) : Int) - 1])) := upd_same
    have e6 := s8 _ _ (b6.tk k7 _ _ e6)
    have hn4 : (if q.2 + dl > 0 then q.2 + dl else 0).toNat ≤ 4 := by omega
    refine catA_i e6 e8 (by show ss.length + 1 ≤ 10000000; omega) fun r H9 s9 h9 => ?_
    exact ⟨_, r, _, rfl, (k6.trans k7).trans (Kp.same (s8.trans s9)), b7.same (s8.trans s9), h9, by rw [List.length_append]; show ss.length + 1 = i + 1; omega⟩
  rintro σ H6 ⟨x7, p, ss, rfl, k6, b6, e6, ls⟩
  have ls4 : ss.length ≤ 4 := by omega
  clear ls
  have k06 := k05.trans k6
  have t3 := b5.tk k6 _ _ t3
  have hA6 := hA.kx5 ‹BxT H x› k06
  have hRd6 := hRd.sn (SameN.of_kp ‹BxT H x› k06)
  obtain ⟨tR, tM, tS, vR, a1, a2, a3, a4, a5⟩ := id hA6
  have aat : ∀ (j : Nat) (v : V), ([.int ((D.many : Nat) : Int), .ref tR, .int ((D.rest : Nat) : Int), .ref tM, .ref tS] : List V)[j]? = some v → ([.int ((D.many : Nat) : Int), .ref tR, .int ((D.rest : Nat) : Int), .ref tM, .ref tS] ++ ex : List V)[j]? = some v := fun j v h => by
    rw [List.getElem?_append_left (List.getElem?_eq_some_iff.mp h).1]
    exact h
  -- outside
  refine ⟨_, rfl, p, rfl, ⟨_, SqT.of e6⟩, fun D1 hD1 => lc_it (walk_tup (xs := iV ss)) (fun i H' => Same H6 H' ∧ H' D1 = some (.lst (iV (outL D.many (ss.take i))))) ⟨(Same.refl H6).upd_new hD1, upd_same⟩ (fun i H' _ ⟨q, _⟩ => SqT.of (q _ _ e6)) ?_ ?_⟩
  · rintro i v H7' H7 hi ⟨s7, d7⟩ ⟨rfl, hv⟩
    rw [iV_len] at hi
    have hs := List.getElem?_eq_getElem hi
    rw [iV_at hs] at hv
    injection hv with hv
    subst hv
    have et : outL D.many (ss.take (i + 1)) = outL D.many (ss.take i) ++ outL D.many [ss[i]] := by unfold outL; rw [take_snoc' hs, List.filter_append]
    generalize ss[i] = y at et
    have yes : ¬ InS (D.many : Nat) y → ∃ acc, H7 D1 = some (HO.lst acc) ∧ acc.length < sizeLine ∧ Same H6 (upd H7 D1 (HO.lst (acc ++ [.int y]))) ∧ upd H7 D1 (HO.lst (acc ++ [.int y])) D1 = some (HO.lst (iV (outL D.many (List.take (i + 1) ss)))) := fun hn => by
      refine ⟨_, d7, ?_, s7.upd_own hD1, ?_⟩
      · rw [iV_len]
        have := List.length_filter_le (fun s => !decide (InS (D.many : Nat) s)) (ss.take i)
        rw [List.length_take] at this
        exact lt_line (by unfold outL; omega)
      · rw [upd_same, et, ← iV_app]
        unfold outL
        rw [List.filter_cons_of_pos (by simpa using hn)]
        rfl
    have no : InS (D.many : Nat) y → Same H6 H7 ∧ H7 D1 = some (HO.lst (iV (outL D.many (List.take (i + 1) ss)))) := fun hy => by
      refine ⟨s7, ?_⟩
      rw [et, d7]
      unfold outL
      rw [List.filter_cons_of_neg (by simpa using hy), List.filter_nil, List.append_nil]
    refine ⟨rfl, _, rfl, _, _, rfl, rfl, _, rfl, ite2 (fun c => ⟨_, rfl, a, _, _, _, rfl, rfl, SqL.of (s7 _ _ a1), at_ofG (j := 0) rfl (aat 0 _ rfl), _, _, rfl, rfl, ?_⟩) (fun c => ?_)⟩
    · have c := of_decide_eq_true c
      refine ⟨_, rfl, ite2 (fun c2 => ⟨_, rfl, yes fun h => ?_⟩) (fun c2 => no ⟨c, ?_⟩)⟩
      · have := h.2
        simp at c2
        omega
      · simp at c2
        exact c2
    · exact ⟨false, rfl, ifp rfl ⟨_, rfl, yes fun h => c (decide_eq_true h.1)⟩⟩
  rintro H7 ⟨s7, d7⟩
  rw [iV_len, List.take_length] at d7
  have t3 := s7 _ _ t3
  have e6 := s7 _ _ e6
  refine ⟨fun σ H' => ∃ dq : Addr, σ = [some (.ref x), some (.ref kd), some (.ref a), some (.ref u), some (.ref t), some (.str z), some (.ref p), x7, some (.ref D1), some (.ref dq), none] ∧ Same H7 H' ∧ H' dq = some (.tup (StvK rows D z ss)), ?_, ?_⟩
  · refine ⟨_, rfl, _, rfl, t, _, _, _, rfl, rfl, SqT.of t3, atI_nat (j := 0) rfl, rfl, _, rfl, ite2 (fun c => ?_) (fun c => ?_)⟩
    · have hne : z ≠ q.1 := fun e => by rw [e] at c; simp at c
      have hno : ¬ HasN rows z := hz.resolve_left hne
      refine ⟨_, rfl, le_line (show 3 ≤ 10000000 by decide), fun dq hdq => ⟨dq, rfl, (Same.refl H7).upd_new hdq, ?_⟩⟩
      rw [upd_same]
      unfold StvK
      rw [stp_kind hno]
    have ez : z = q.1 := Classical.byContradiction fun hne => c (by simpa using hne)
    subst ez
    refine ⟨_, rfl, p, _, rfl, .inr (SqT.of e6), _, rfl, t, _, _, _, rfl, rfl, SqT.of t3, atI_nat (j := 1) rfl, rfl, _, rfl, ite2 (fun c2 => ?_) (fun c2 => ?_)⟩
    · rw [iV_len, ← hw] at c2
      have hl : ss.length ≠ wR rows q.1 := fun e => by rw [e] at c2; simp at c2
      refine ⟨_, rfl, t, _, _, _, rfl, rfl, SqT.of t3, atI_nat (j := 1) rfl, _, rfl, p, _, rfl, .inr (SqT.of e6), le_line (show 4 ≤ 10000000 by decide), fun dq hdq => ⟨dq, rfl, (Same.refl H7).upd_new hdq, ?_⟩⟩
      rw [upd_same]
      unfold StvK
      rw [stp_wrong hzn hl, iV_len, ← hw]
    rw [iV_len, ← hw] at c2
    have hl : ss.length = wR rows q.1 := by
      have : ¬ ¬ ((ss.length : Nat) : Int) = ((wR rows q.1 : Nat) : Int) := fun h => c2 (by simpa using h)
      omega
    refine ⟨_, rfl, le_line (show 0 ≤ 10000000 by decide), fun N hN => ?_⟩
    have sN := (Same.refl H7).upd_new (o := .lst []) hN
    have eN : (upd H7 N (.lst [])) N = some (.lst []) := upd_same
    generalize upd H7 N (.lst []) = H8 at sN eN
    have d8 := sN _ _ d7
    have hh : (outL D.many ss).head? = ss.find? (fun s => !decide (InS (D.many : Nat) s)) := List.head?_filter
    refine ⟨.list ((outL D.many ss).map PyData.int), .list [], .lst (SqL.of d8) (dp_intsK _), .lst (SqL.of eN) .nil, shp_ints _, shp_nil, _, rfl, ?_⟩
    rw [eqv_nil]
    refine ite2 (fun c3 => ?_) (fun c3 => ?_)
    · obtain ⟨y, r, ey⟩ : ∃ y r, outL D.many ss = y :: r := by
        cases e : outL D.many ss with
        | nil => rw [e] at c3; simp at c3
        | cons y r => exact ⟨y, r, rfl⟩
      rw [ey] at hh d8
      refine ⟨_, rfl, D1, _, _, _, rfl, rfl, SqL.of d8, at_ofG (j := 0) rfl rfl, le_line (show 3 ≤ 10000000 by decide), fun dq hdq => ⟨dq, rfl, sN.upd_new hdq, ?_⟩⟩
      rw [upd_same]
      unfold StvK
      rw [stp_no hzn hl hh.symm]
    · have e0 : outL D.many ss = [] := by
        cases e : outL D.many ss with
        | nil => rfl
        | cons y r => rw [e] at c3; simp at c3
      rw [e0] at hh
      have hf : ss.find? (fun s => !decide (InS (D.many : Nat) s)) = none := hh.symm
      have hall : ∀ s ∈ ss, InS (D.many : Nat) s := fun s hs => by
        have := List.find?_eq_none.mp hf s hs
        simpa using this
      have eI : iV ss = nI (ss.map Int.toNat) := iV_nat fun s hs => (hall s hs).1
      have hval := hD.val R hzn (z := q.1) (ss := ss.map Int.toNat) (by rw [List.length_map]; exact hl) fun s hs => by
        obtain ⟨y, hy, rfl⟩ := List.mem_map.mp hs
        have := hall y hy
        obtain ⟨g1, g2⟩ := this
        omega
      refine ⟨_, rfl, a, _, _, _, rfl, rfl, SqL.of (sN _ _ (s7 _ _ a1)), at_ofG (j := 4) rfl (aat 4 _ rfl), _, rfl, _, rfl, le_line (show 2 ≤ 10000000 by decide), fun pk hpk => ?_⟩
      have s9 := (Same.refl H8).upd_new (o := .tup [.str q.1, .ref p]) hpk
      have p9 : (upd H8 pk (.tup [.str q.1, .ref p])) pk = some (.tup [.str q.1, .ref p]) := upd_same
      generalize upd H8 pk (.tup [.str q.1, .ref p]) = H9 at s9 p9
      have nk : NKAt H9 (nkR (q.1, ss.map Int.toNat)) pk := ⟨p, p9, by
        rw [s9 _ _ (sN _ _ e6), eI]
        show _ = some (HO.tup ((tkey (ss.map Int.toNat)).map kV))
        rw [tkey_V]⟩
      refine ⟨tS, pk, _, _, _, rfl, rfl, a5.sm (fun p o h => s9 _ _ (sN _ _ (s7 _ _ h))), nk, hval, le_line (show 2 ≤ 10000000 by decide), fun dq hdq => ⟨dq, rfl, (sN.trans s9).upd_new hdq, ?_⟩⟩
      rw [upd_same]
      unfold StvK
      rw [stp_okk hzn hl hf]
  rintro σ H8 ⟨dq, rfl, s8, e8⟩
  refine ⟨_, rfl, _, rfl, _, rfl, u, b, p, z, ss, rows, D, rfl, (hRd6.same s7).same s8, R, hD, hK, s8 _ _ e6, by omega, fun H9 r s9 e9 => ?_⟩
  refine ⟨_, rfl, _, _, rfl, sam_flat (n := 2) e9 (s9 _ _ e8) (by unfold StvK; split <;> simp) (fun y hy => ?_), fun H10 s10 => ?_⟩
  · unfold StvK at hy
    split at hy <;> simp at hy
    · rcases hy with rfl | rfl | rfl
      · exact .inr (.inl ⟨_, rfl⟩)
      · exact .inr (.inl ⟨_, rfl⟩)
      · exact .inr (.inr ⟨_, rfl⟩)
    · rcases hy with rfl | rfl | rfl | rfl
      · exact .inr (.inl ⟨_, rfl⟩)
      · exact .inl ⟨_, rfl⟩
      · exact .inl ⟨_, rfl⟩
      · exact .inr (.inr ⟨_, rfl⟩)
    · rcases hy with rfl | rfl | rfl
      · exact .inr (.inl ⟨_, rfl⟩)
      · exact .inl ⟨_, rfl⟩
      · exact .inr (.inr ⟨_, rfl⟩)
    · rcases hy with rfl | rfl
      · exact .inr (.inl ⟨_, rfl⟩)
      · exact .inl ⟨_, rfl⟩
  · have s710 := ((s7.trans s8).trans s9).trans s10
    exact key H10 (k06.trans (Kp.same s710)) (b6.same s710)
end
end Sh
end
section
set_option Elab.async false
set_option linter.all false
set_option maxRecDepth 100000
set_option maxHeartbeats 16000000
namespace Sh
open PySem PySem.Spec PyProof.Rows L2 NdefX LamX
open C8 (pss_cut tCut)
open Evl (ixN_nat)
theorem slA_i {K : PySem.W.Frag} {H : Hp} {a : Addr} {l : List Int} {lo hi : Option Int} {Q : VK} (ha : H a = some (.tup (iV l))) (k : ∀ r H' l', Same H H' → H' r = some (.tup (iV l')) → l'.length ≤ l.length → Q (.ref r) H') : rSlA K (.ref a) lo hi H Q := by
  refine ⟨a, iV l, rfl, SqT.of ha, fun _ => k a H l (Same.refl H) ha (Nat.le_refl _), fun _ p hp => ?_⟩
  refine k p _ ((l.drop (HT.sIx (iV l).length 0 lo)).take (HT.sIx (iV l).length (iV l).length hi - HT.sIx (iV l).length 0 lo)) ((Same.refl H).upd_new hp) ?_ ?_
  · rw [upd_same]
    unfold cutV
    congr 2
    unfold iV
    rw [List.map_take, List.map_drop]
  · rw [List.length_take, List.length_drop]
    omega
theorem rep_i (k : Nat) (z : Int) : (List.replicate k (iV [z])).flatten = iV (List.replicate k z) := by
  induction k with
  | zero => rfl
  | succ k ih =>
    rw [List.replicate_succ, List.flatten_cons, ih, List.replicate_succ]
    rfl
theorem repG_i {K : PySem.W.Frag} {H : Hp} {a : Addr} {z k : Int} {Q : VK} (ha : H a = some (.tup (iV [z]))) (k0 : 0 ≤ k) (k4 : k ≤ 4000) (kk : ∀ r H', Same H H' → H' r = some (.tup (iV (List.replicate k.toNat z))) → Q (.ref r) H') : rRepG K (.ref a) (.int k) H Q := by
  refine ⟨a, k, iV [z], rfl, rfl, SqT.of ha, fun e => (nomatch e), k0, k4, by show 1 ≤ 100; decide, fun e => ?_, fun _ p hp => ?_⟩
  · exact kk a H (Same.refl H) (by rw [e]; exact ha)
  · exact kk p _ ((Same.refl H).upd_new hp) (by rw [upd_same, rep_i])
def XeAt (H : Hp) (p : Addr) (e : XE) : Prop := ∃ b, H p = some (.tup [.str e.1, .ref b, .int e.2.2]) ∧ H b = some (.tup (iV e.2.1))
def spBadRow : Sp := fun vs H Q _ => ∃ (x kd tR : Addr) (m pl : Nat) (ts us : List Addr) (rows : List Row) (xs : List XE), vs = [.ref x, .ref kd, .int (m : Nat), .ref tR, .int (pl : Nat)] ∧ BxT H x ∧ H kd = some (.tup (ts.map V.ref)) ∧ TupsAt H ts rows ∧ ROk 4 rows ∧ 1 ≤ m ∧ m ≤ 40 ∧ H tR = some (.tup (us.map V.ref)) ∧ XwAt H us xs ∧ xs.length ≤ 20000 ∧ (∀ e ∈ xs, e.2.1.length ≤ 10) ∧ pl ≤ xs.length ∧
  ∀ H' p e, Kp x H H' → BxT H' x → XeAt H' p e → e.2.1.length ≤ 10 → Q (.ref p) H'
abbrev N_law_bad_row : List Str := ["box", "kinds", "states", "rows", "place", "pair", "below", "far", "way", "spot", "elder"]
theorem sc_law_bad_row : FnScope N_law_bad_row ["box", "kinds", "states", "rows", "place"] (defScope s_law_bad_row) := ⟨rfl, rfl, rfl, by decide +kernel, rfl, by decide +kernel, by decide +kernel⟩
section
variable {P : Program} {w : World} {K : PySem.W.Frag} {mg : Str → Option Value} {base : Heap}
theorem ok_badRow (T : Bl mg) (c_law_take : DefOk P w K mg base CX0 1 "_law_take" spTake) (c_law_stranger : DefOk P w K mg base CX0 2 "_law_stranger" spStranger) (D : Def0 K mg "_law_bad_row" s_law_bad_row) : DefOk P w K mg base CX0 3 "_law_bad_row" spBadRow := by
  refine D.ok sc_law_bad_row (fun vs H Q E h => by obtain ⟨x, kd, tR, m, pl, ts, us, rows, xs, rfl, _⟩ := h; rfl) (fun _ _ _ _ _ _ us hl => match us, hl with | [_, _, _, _, _], _ => rfl) (fun f cdv A' outer s0 H vs Q E hr h => ?_)
  obtain ⟨x, kd, tR, m, pl, ts, us, rows, xs, rfl, hx, hk, hT, R, m1, m40, hR, hX, lx, lb, hpl, key⟩ := h
  have r1 := R.pos
  have r4 := R.len
  have nkx := hx.ne_tup hk
  have nrx := hx.ne_tup hR
  have lts : (ts.map V.ref).length = rows.length := by rw [List.length_map, hT.1]
  refine ⟨_, (pss_cons (ps_set (i := 5) sc_law_bad_row.nd rfl (Or.inl rfl) (pe_ix ix_tup (pv 1) (pe_d c_law_take (hr.mono (by decide)) pass0 (pa_cons (pv 0) (pa_cons (pe_callB call_len_seq (by rfl) T.b_len boot_len (pa_cons (pv 1) pa_nil)) pa_nil))) (fun _ _ => rfl)))
    (pss_cons (ps_set (i := 6) sc_law_bad_row.nd rfl (Or.inl rfl) (pe_op op_repG (pe_tup (pa_cons (pe_op op_sub (pv 2) pe_int) pa_nil)) (pe_ix ix_tup (pv 5) pe_int (fun _ _ => rfl))))
    (pss_cons (ps_set (i := 7) sc_law_bad_row.nd rfl (Or.inl rfl) (pe_ix ix_list (pe_lst (pa_cons (pv 2) (pa_cons (pe_un un_neg pe_int) (pa_cons (pe_op op_add (pv 2) pe_int) (pa_cons (pe_op op_sub (pe_un un_neg pe_int) (pv 2)) pa_nil))))) (pe_d c_law_take (hr.mono (by decide)) pass0 (pa_cons (pv 0) (pa_cons pe_int pa_nil))) (fun _ _ => rfl)))
    (pss_cons (ps_set (i := 8) sc_law_bad_row.nd rfl (Or.inl rfl) (pe_d c_law_take (hr.mono (by decide)) pass0 (pa_cons (pv 0) (pa_cons pe_int pa_nil))))
    (pss_cut (ps_if (pt_cmpR op_eq (pv 8) pe_int (nomark _))
      (pss_one (ps_ret (pe_tup (pa_cons (pe_d c_law_stranger (hr.mono (by decide)) pass0 (pa_cons (pv 0) (pa_cons (pv 1) pa_nil))) (pa_cons (pv 6) (pa_cons pe_int pa_nil))))))
      pss_nil)
    (pss_cut (ps_if (pt_cmpR op_eq (pv 8) pe_int (nomark _))
      (pss_one (ps_ret (pe_tup (pa_cons (pe_ix ix_tup (pv 5) pe_int (fun _ _ => rfl)) (pa_cons (pe_op op_catA (pv 6) (pe_tup (pa_cons pe_int pa_nil))) (pa_cons pe_int pa_nil))))))
      pss_nil)
    (pss_cut (ps_if (PW.pt (pw_and (pt_cmpR op_eq (pv 8) pe_int (nomark _)) (pw_and1 (pt_cmpR op_gt (pe_ix ix_tup (pv 5) pe_int (fun _ _ => rfl)) pe_int (nomark _)))))
      (pss_one (ps_ret (pe_tup (pa_cons (pe_ix ix_tup (pv 5) pe_int (fun _ _ => rfl)) (pa_cons (pe_slice sl_tupA (pv 6) (po_some pe_int) po_none) (pa_cons pe_int pa_nil))))))
      pss_nil)
    (pss_cut (ps_if (PW.pt (pw_and (pt_cmpR op_eq (pv 8) pe_int (nomark _)) (pw_and1 (pt_cmpR op_gt (pe_ix ix_tup (pv 5) pe_int (fun _ _ => rfl)) pe_int (nomark _)))))
      (pss_cons (ps_set (i := 9) sc_law_bad_row.nd rfl (Or.inl rfl) (pe_d c_law_take (hr.mono (by decide)) pass0 (pa_cons (pv 0) (pa_cons (pe_ix ix_tup (pv 5) pe_int (fun _ _ => rfl)) pa_nil))))
      (pss_one (ps_ret (pe_tup (pa_cons (pe_ix ix_tup (pv 5) pe_int (fun _ _ => rfl)) (pa_cons (pe_op op_catA (pe_op op_catA (pe_slice sl_tupA (pv 6) po_none (po_some (pv 9))) (pe_tup (pa_cons (pv 7) pa_nil))) (pe_slice sl_tupA (pv 6) (po_some (pe_op op_add (pv 9) pe_int)) po_none)) (pa_cons pe_int pa_nil)))))))
      pss_nil)
    (pss_cut (ps_if (PW.pt (pw_and (pt_cmpR op_eq (pv 8) pe_int (nomark _)) (pw_and1 (pt_cmpR op_gt (pv 4) pe_int (nomark _)))))
      (pss_cons (ps_set (i := 10) sc_law_bad_row.nd rfl (Or.inl rfl) (pe_ix ix_tup (pv 3) (pe_d c_law_take (hr.mono (by decide)) pass0 (pa_cons (pv 0) (pa_cons (pv 4) pa_nil))) (fun _ _ => rfl)))
      (pss_one (ps_ret (pe_tup (pa_cons (pe_ix ix_tup (pv 10) pe_int (fun _ _ => rfl)) (pa_cons (pe_ix ix_tup (pv 10) pe_int (fun _ _ => rfl)) (pa_cons (pe_ix ix_list (pe_lst (pa_cons pe_int (pa_cons (pe_ix ix_tup (pv 10) pe_int (fun _ _ => rfl)) pa_nil))) (pe_d c_law_take (hr.mono (by decide)) pass0 (pa_cons (pv 0) (pa_cons pe_int pa_nil))) (fun _ _ => rfl)) pa_nil)))))))
      pss_nil)
    (pss_one (ps_ret (pe_tup (pa_cons (pe_ix ix_tup (pv 5) pe_int (fun _ _ => rfl)) (pa_cons (pv 6) (pa_cons (pv 7) pa_nil))))))))))))))), ?_⟩
  refine ⟨_, rfl, _, rfl, _, rfl, kd, _, rfl, .inr (SqT.of hk), x, _, rfl, hx, by rw [lts]; omega, by rw [lts]; omega, fun H1 d k1 b1 d1 => ?_⟩
  rw [lts] at d1
  have hd : d < rows.length := by omega
  obtain ⟨t, t1, t2, t3⟩ := (hT.keep (hx.tk k1)).at hd
  have hqm := List.getElem_mem hd
  generalize rows[d] = q at t3 hqm
  have hwd := R.wd q hqm
  refine ⟨kd, _, _, _, rfl, rfl, SqT.of (k1 _ _ hk nkx), at_ofG (j := d) rfl t2, ?_⟩
  refine ⟨_, rfl, _, _, rfl, rfl, le_line (show 1 ≤ 10000000 by decide), fun p0 hp0 => ?_⟩
  have s2 := (Same.refl H1).upd_new (o := .tup [.int (((m : Nat) : Int) - 1)]) hp0
  have e2 : (upd H1 p0 (.tup [.int (((m : Nat) : Int) - 1)])) p0 = some (.tup (iV [((m : Nat) : Int) - 1])) := upd_same
  have b2 := b1.new (o := .tup [.int (((m : Nat) : Int) - 1)]) hp0
  generalize upd H1 p0 (.tup [.int (((m : Nat) : Int) - 1)]) = H2 at s2 e2 b2
  refine ⟨_, rfl, t, _, _, _, rfl, rfl, SqT.of (s2 _ _ t3), atI_nat (j := 1) rfl, repG_i e2 hwd.1 (by omega) fun bb H3 s3 hbb => ?_⟩
  have lbb : (List.replicate q.2.toNat (((m : Nat) : Int) - 1)).length ≤ 3 := by rw [List.length_replicate]; omega
  generalize List.replicate q.2.toNat (((m : Nat) : Int) - 1) = bl at hbb lbb
  have b3 := b2.same s3
  have k03 := k1.trans (Kp.same (s2.trans s3))
  have t3 := s3 _ _ (s2 _ _ t3)
  refine ⟨_, rfl, _, rfl, _, rfl, _, _, rfl, rfl, _, rfl, _, rfl, _, _, rfl, rfl, le_line (show 4 ≤ 10000000 by decide), fun L hL => ?_⟩
  have nLx : L ≠ x := b3.ne hL
  have sL := (Same.refl H3).upd_new (o := .lst [.int ((m : Nat) : Int), .int (-1), .int (((m : Nat) : Int) + 40), .int (-1 - ((m : Nat) : Int))]) hL
  have eL : (upd H3 L (.lst [.int ((m : Nat) : Int), .int (-1), .int (((m : Nat) : Int) + 40), .int (-1 - ((m : Nat) : Int))])) L = some (.lst (([((m : Nat) : Int), -1, ((m : Nat) : Int) + 40, -1 - ((m : Nat) : Int)] : List Int).map V.int)) := upd_same
  have b4 := b3.new (o := .lst [.int ((m : Nat) : Int), .int (-1), .int (((m : Nat) : Int) + 40), .int (-1 - ((m : Nat) : Int))]) hL
  have t3 := sL _ _ t3
  have hbb := sL _ _ hbb
  refine ⟨_, rfl, x, 4, rfl, b4, by decide, by decide, fun H5 e k5 b5 he => ?_⟩
  obtain ⟨fr, hfr, _⟩ := pickI (l := [((m : Nat) : Int), -1, ((m : Nat) : Int) + 40, -1 - ((m : Nat) : Int)]) (fun _ => True) (fun _ _ => trivial) (e := e) (by show e < 4; omega)
  refine ⟨L, _, _, _, rfl, rfl, SqL.of (k5 _ _ eL nLx), at_ofG (j := e) rfl hfr, ?_⟩
  refine ⟨_, rfl, x, 6, rfl, b5, by decide, by decide, fun H6 way k6 b6 hway => ?_⟩
  have t3 := b5.tk k6 _ _ (b4.tk k5 _ _ t3)
  have hbb := b5.tk k6 _ _ (b4.tk k5 _ _ hbb)
  have k06 := ((k03.trans (Kp.same sL)).trans k5).trans k6
  have go : ∀ {H' : Hp} {p b : Addr} {z : Str} {l : List Int} {n : Int}, Same H6 H' → H' p = some (.tup [.str z, .ref b, .int n]) → H' b = some (.tup (iV l)) → l.length ≤ 10 → Q (.ref p) H' := fun {H' p b z l n} s h1 h2 hl => key H' p (z, l, n) (k06.trans (Kp.same s)) (b6.same s) ⟨b, h1, h2⟩ hl
  have new3 : ∀ {H' : Hp} {p : Addr} {z : Str} {b : Addr} {l : List Int} {n : Int}, Same H6 H' → H' p = none → H' b = some (.tup (iV l)) → l.length ≤ 10 → Q (.ref p) (upd H' p (.tup [.str z, .ref b, .int n])) := fun {H' p z b l n} s hp hb hl => go (s.upd_new hp) upd_same (by rw [upd_ne (ne_of_none hb hp)]; exact hb) hl
  refine ⟨fun σ H' => σ = [some (.ref x), some (.ref kd), some (.int ((m : Nat) : Int)), some (.ref tR), some (.int ((pl : Nat) : Int)), some (.ref t), some (.ref bb), some (.int fr), some (.int ((way : Nat) : Int)), none, none] ∧ H6 = H', ?_, ?_⟩
  · refine ⟨_, rfl, rfl, _, rfl, ite2 (fun c => ?_) (fun c => ⟨rfl, rfl⟩)⟩
    refine ⟨_, rfl, _, rfl, x, kd, ts, rows, rfl, b6, k06 _ _ hk nkx, hT.keep (hx.tk k06), R, fun H7 z k7 b7 hz hK => ?_⟩
    have hbb := b6.tk k7 _ _ hbb
    refine ⟨_, rfl, le_line (show 3 ≤ 10000000 by decide), fun p hp => ?_⟩
    exact key _ p (z, bl, 0) ((k06.trans k7).trans (Kp.same ((Same.refl H7).upd_new hp))) (b7.new hp) ⟨bb, upd_same, by rw [upd_ne (ne_of_none hbb hp)]; exact hbb⟩ (by show bl.length ≤ 10; omega)
  rintro σ H' ⟨rfl, rfl⟩
  refine ⟨fun σ H' => σ = [some (.ref x), some (.ref kd), some (.int ((m : Nat) : Int)), some (.ref tR), some (.int ((pl : Nat) : Int)), some (.ref t), some (.ref bb), some (.int fr), some (.int ((way : Nat) : Int)), none, none] ∧ H6 = H', ?_, ?_⟩
  · refine ⟨_, rfl, rfl, _, rfl, ite2 (fun c => ?_) (fun c => ⟨rfl, rfl⟩)⟩
    refine ⟨_, rfl, t, _, _, _, rfl, rfl, SqT.of t3, atI_nat (j := 0) rfl, _, rfl, le_line (show 1 ≤ 10000000 by decide), fun p1 hp1 => ?_⟩
    have s7 := (Same.refl _).upd_new (o := .tup [.int 0]) hp1
    refine catA_i (s7 _ _ hbb) (m := [0]) upd_same (by show bl.length + 1 ≤ 10000000; omega) fun r H8 s8 h8 => ?_
    exact ⟨le_line (show 3 ≤ 10000000 by decide), fun p hp => new3 (s7.trans s8) hp h8 (by rw [List.length_append]; show bl.length + 1 ≤ 10; omega)⟩
  rintro σ H' ⟨rfl, rfl⟩
  refine ⟨fun σ H' => σ = [some (.ref x), some (.ref kd), some (.int ((m : Nat) : Int)), some (.ref tR), some (.int ((pl : Nat) : Int)), some (.ref t), some (.ref bb), some (.int fr), some (.int ((way : Nat) : Int)), none, none] ∧ H6 = H', ?_, ?_⟩
  · refine ⟨_, rfl, rfl, _, rfl, ite2 (fun c => ?_) (fun c => ⟨rfl, rfl⟩)⟩
    refine ⟨_, rfl, t, _, _, _, rfl, rfl, SqT.of t3, atI_nat (j := 1) rfl, _, _, rfl, rfl, _, rfl, ite2 (fun c => ?_) (fun c => ⟨rfl, rfl⟩)⟩
    refine ⟨_, rfl, t, _, _, _, rfl, rfl, SqT.of t3, atI_nat (j := 0) rfl, _, rfl, _, rfl, ?_⟩
    unfold tNoPart
    refine slA_i hbb fun r H8 l' s8 h8 hl => ?_
    exact ⟨le_line (show 3 ≤ 10000000 by decide), fun p hp => new3 s8 hp h8 (by omega)⟩
  rintro σ H' ⟨rfl, rfl⟩
  refine ⟨fun σ H' => σ = [some (.ref x), some (.ref kd), some (.int ((m : Nat) : Int)), some (.ref tR), some (.int ((pl : Nat) : Int)), some (.ref t), some (.ref bb), some (.int fr), some (.int ((way : Nat) : Int)), none, none] ∧ H6 = H', ?_, ?_⟩
  · refine ⟨_, rfl, rfl, _, rfl, ite2 (fun c => ?_) (fun c => ⟨rfl, rfl⟩)⟩
    refine ⟨_, rfl, t, _, _, _, rfl, rfl, SqT.of t3, atI_nat (j := 1) rfl, _, _, rfl, rfl, _, rfl, ite2 (fun c => ?_) (fun c => ⟨rfl, rfl⟩)⟩
    have q0 : 0 < q.2 := of_decide_eq_true c
    refine ⟨_, rfl, _, rfl, t, _, _, _, rfl, rfl, SqT.of t3, atI_nat (j := 1) rfl, x, _, rfl, b6, q0, by omega, fun H7 sp k7 b7 hsp => ?_⟩
    have t3 := b6.tk k7 _ _ t3
    have hbb := b6.tk k7 _ _ hbb
    refine ⟨_, rfl, t, _, _, _, rfl, rfl, SqT.of t3, atI_nat (j := 0) rfl, _, rfl, _, rfl, _, rfl, slA_i hbb fun r H8 l1 s8 h8 hl1 => ?_⟩
    refine ⟨_, rfl, le_line (show 1 ≤ 10000000 by decide), fun p1 hp1 => ?_⟩
    have s9 := s8.upd_new (o := .tup [.int fr]) hp1
    have s89 := (Same.refl H8).upd_new (o := .tup [.int fr]) hp1
    refine catA_i (s89 _ _ h8) (m := [fr]) upd_same (by show l1.length + 1 ≤ 10000000; omega) fun r2 H10 s10 h10 => ?_
    have s7t := s9.trans s10
    refine ⟨_, rfl, _, rfl, _, _, rfl, rfl, _, rfl, ?_⟩
    unfold tNoPart
    refine slA_i (s7t _ _ hbb) fun r3 H11 l3 s11 h11 hl3 => ?_
    refine catA_i (s11 _ _ h10) h11 (by rw [List.length_append]; show l1.length + 1 + l3.length ≤ 10000000; omega) fun r4 H12 s12 h12 => ?_
    have sA := (s7t.trans s11).trans s12
    refine ⟨le_line (show 3 ≤ 10000000 by decide), fun p hp => ?_⟩
    exact key _ p (q.1, _, 0) ((k06.trans k7).trans (Kp.same (sA.upd_new hp))) ((b7.same sA).new hp) ⟨r4, upd_same, by rw [upd_ne (ne_of_none h12 hp)]; exact h12⟩ (by show (l1 ++ [fr] ++ l3).length ≤ 10; rw [List.length_append, List.length_append]; show l1.length + 1 + l3.length ≤ 10; omega)
  rintro σ H' ⟨rfl, rfl⟩
  refine ⟨fun σ H' => σ = [some (.ref x), some (.ref kd), some (.int ((m : Nat) : Int)), some (.ref tR), some (.int ((pl : Nat) : Int)), some (.ref t), some (.ref bb), some (.int fr), some (.int ((way : Nat) : Int)), none, none] ∧ H6 = H', ?_, ?_⟩
  · refine ⟨_, rfl, rfl, _, rfl, ite2 (fun c => ?_) (fun c => ⟨rfl, rfl⟩)⟩
    refine ⟨_, rfl, _, _, rfl, rfl, _, rfl, ite2 (fun c => ?_) (fun c => ⟨rfl, rfl⟩)⟩
    have p0' : (0 : Int) < ((pl : Nat) : Int) := of_decide_eq_true c
    refine ⟨_, rfl, _, rfl, _, rfl, x, _, rfl, b6, p0', by omega, fun H7 g k7 b7 hg => ?_⟩
    have k07 := k06.trans k7
    have hgl : g < us.length := by rw [hX.1]; omega
    have hgx : g < xs.length := by omega
    have hu := List.getElem?_eq_getElem hgl
    have hxe := List.getElem?_eq_getElem hgx
    obtain ⟨eb, h1, h2⟩ := hX.2 g _ _ hu hxe
    have hl := lb _ (List.getElem_mem hgx)
    generalize us[g] = eu at hu h1
    generalize xs[g] = ee at hxe h1 h2 hl
    have h1 := hx.tk k07 _ _ h1
    have h2 := hx.tk k07 _ _ h2
    refine ⟨tR, _, _, _, rfl, rfl, SqT.of (k07 _ _ hR nrx), at_ofG (j := g) rfl (by rw [List.getElem?_map, hu]; rfl), ?_⟩
    refine ⟨_, rfl, eu, _, _, _, rfl, rfl, SqT.of h1, atI_nat (j := 0) rfl, _, rfl, eu, _, _, _, rfl, rfl, SqT.of h1, atI_nat (j := 1) rfl, _, rfl, eu, _, _, _, rfl, rfl, SqT.of h1, atI_nat (j := 2) rfl, le_line (show 2 ≤ 10000000 by decide), fun L2 hL2 => ?_⟩
    have nL2 : L2 ≠ x := b7.ne hL2
    have s8 := (Same.refl H7).upd_new (o := .lst [.int 0, .int ee.2.2]) hL2
    have e8 : (upd H7 L2 (.lst [.int 0, .int ee.2.2])) L2 = some (.lst (([0, ee.2.2] : List Int).map V.int)) := upd_same
    have b8 := b7.new (o := .lst [.int 0, .int ee.2.2]) hL2
    refine ⟨_, rfl, x, 2, rfl, b8, by decide, by decide, fun H9 e2 k9 b9 he2 => ?_⟩
    obtain ⟨fe, hfe, _⟩ := pickI (l := [0, ee.2.2]) (fun _ => True) (fun _ _ => trivial) (e := e2) (by show e2 < 2; omega)
    refine ⟨L2, _, _, _, rfl, rfl, SqL.of (k9 _ _ e8 nL2), at_ofG (j := e2) rfl hfe, le_line (show 3 ≤ 10000000 by decide), fun p hp => ?_⟩
    have h2 := b8.tk k9 _ _ (s8 _ _ h2)
    exact key _ p (ee.1, ee.2.1, fe) (((k07.trans (Kp.same s8)).trans k9).trans (Kp.same ((Same.refl H9).upd_new hp))) (b9.new hp) ⟨eb, upd_same, by rw [upd_ne (ne_of_none h2 hp)]; exact h2⟩ hl
  rintro σ H' ⟨rfl, rfl⟩
  refine ⟨_, rfl, t, _, _, _, rfl, rfl, SqT.of t3, atI_nat (j := 0) rfl, _, rfl, _, rfl, le_line (show 3 ≤ 10000000 by decide), fun p hp => ?_⟩
  exact new3 (Same.refl _) hp hbb (by omega)
end
end Sh
end
section
set_option Elab.async false
set_option linter.all false
set_option maxRecDepth 100000
set_option maxHeartbeats 16000000
namespace Sh
open PySem PySem.Spec PyProof.Rows L2 NdefX LamX
open C8 (pss_cut tCut)
open Evl (ixN_nat)
noncomputable def xfI (rows : List Row) (m : Int) (xs : List XE) : Int := match xfl rows m [] xs 0 with
  | some i => ((i : Nat) : Int)
  | none => -1
def nkX (e : XE) : NKey := (.inr e.1, ikey e.2.1)
theorem nkX_inj {e e' : XE} (h : nkX e = nkX e') : xk e = xk e' := by
  obtain ⟨h1, h2⟩ := Prod.mk.inj h
  have h1 : e.1 = e'.1 := Sum.inr.inj h1
  have h2 := ikey_inj h2
  unfold xk
  rw [h1, h2]
theorem valV_last {kvs : List (NKey × V)} {k : NKey} {v : V} (h : valV kvs k = none) : valV (kvs ++ [(k, v)]) k = some v := by
  induction kvs with
  | nil => exact valV_pos rfl
  | cons p r ih =>
    by_cases e : p.1 = k
    · rw [valV_pos e] at h
      cases h
    · rw [valV_neg e] at h
      rw [List.cons_append, valV_neg e]
      exact ih h
theorem valV_app_ne {kvs : List (NKey × V)} {k k' : NKey} {v : V} (h : k ≠ k') : valV (kvs ++ [(k, v)]) k' = valV kvs k' := by
  induction kvs with
  | nil => exact valV_neg h
  | cons p r ih =>
    rw [List.cons_append]
    by_cases e : p.1 = k'
    · rw [valV_pos e, valV_pos e]
    · rw [valV_neg e, valV_neg e]
      exact ih
def spRowFault (P : Program) (w : World) : Sp := fun vs H Q _ => ∃ (d tR : Addr) (m : Int) (us : List Addr) (rows : List Row) (xs : List XE), vs = [.ref d, .int m, .ref tR] ∧ H d = some (.dK (wL rows)) ∧ ROk 4 rows ∧ H tR = some (.tup (us.map V.ref)) ∧ XwAt H us xs ∧ xs.length ≤ 20000 ∧ (∀ e ∈ xs, e.2.1.length ≤ 100) ∧ ∀ H', Same H H' → Q (.int (xfI rows m xs)) H'
abbrev N_law_row_fault : List Str := ["sizes", "states", "rows", "met", "place", "row", "state"]
theorem sc_law_row_fault : FnScope N_law_row_fault ["sizes", "states", "rows"] (defScope s_law_row_fault) := ⟨rfl, rfl, rfl, by decide +kernel, rfl, by decide +kernel, by decide +kernel⟩
section
variable {P : Program} {w : World} {K : PySem.W.Frag} {mg : Str → Option Value} {base : Heap}
theorem ok_rowFault (T : Bl mg) (D : Def0 K mg "_law_row_fault" s_law_row_fault) : DefOk P w K mg base CX0 1 "_law_row_fault" (spRowFault P w) := by
  refine D.ok sc_law_row_fault (fun vs H Q E h => by obtain ⟨d, tR, m, us, rows, xs, rfl, _⟩ := h; rfl) (fun _ _ _ _ _ _ us hl => match us, hl with | [_, _, _], _ => rfl) (fun f cdv A' outer s0 H vs Q E hr h => ?_)
  obtain ⟨d, tR, m, us, rows, xs, rfl, hd, R, hR, hX, lx, lb, key⟩ := h
  have hu := hu_of hr
  have hu2 := hr.units
  have hu2 : (A'.deeper (envOfC "_law_row_fault" (defScope s_law_row_fault) s0.heap.objs.size f cdv)).units + 2 < cLine := by omega
  refine ⟨_, (pss_cons (ps_set (i := 3) sc_law_row_fault.nd rfl (Or.inl rfl) (show PE _ _ (tNNew P w) from pe_dnewN))
    (pss_cons (ps_for PassesOwn.never rfl (pi_range1 (by rfl) T.b_range (pa_cons (pe_callB call_len_seq (by rfl) T.b_len boot_len (pa_cons (pv 2) pa_nil)) pa_nil)) (pg_name (i := 4) sc_law_row_fault.nd rfl (Or.inl rfl))
      (pss_cons (ps_set (i := 5) sc_law_row_fault.nd rfl (Or.inl rfl) (pe_ix ix_tup (pv 2) (pv 4) (fun _ _ => rfl)))
      (pss_cut (ps_if (PW.pt (pw_or (pt_cmp (pc_dnotin hu (pe_ix ix_tup (pv 5) pe_int (fun _ _ => rfl)) (pv 0))) (pw_or1 (pt_cmpR op_ne (pe_callB call_len_seq (by rfl) T.b_len boot_len (pa_cons (pe_ix ix_tup (pv 5) pe_int (fun _ _ => rfl)) pa_nil)) (pe_dget hu (pv 0) (pe_ix ix_tup (pv 5) pe_int (fun _ _ => rfl)) (fun _ _ => rfl)) (nomark _)))))
        (pss_one (ps_ret (pv 4)))
        pss_nil)
      (pss_cons (ps_for PassesOwn.never rfl (pi_tup (pe_op op_catA (pe_ix ix_tup (pv 5) pe_int (fun _ _ => rfl)) (pe_tup (pa_cons (pe_ix ix_tup (pv 5) pe_int (fun _ _ => rfl)) pa_nil)))) (pg_name (i := 6) sc_law_row_fault.nd rfl (Or.inl rfl))
        (pss_one (ps_if (pt_not (pt_chain op_le op_lt pe_int (pv 6) (pv 1)))
          (pss_one (ps_ret (pv 4)))
          pss_nil)))
      (pss_cut (ps_if (pt_cmp (pc_nin hu2 (pe_tup (pa_cons (pe_ix ix_tup (pv 5) pe_int (fun _ _ => rfl)) (pa_cons (pe_ix ix_tup (pv 5) pe_int (fun _ _ => rfl)) pa_nil))) (pv 3)))
        (pss_one (ps_ret (pv 4)))
        pss_nil)
      (pss_one (ps_nput hu2 (pv 3) (pe_tup (pa_cons (pe_ix ix_tup (pv 5) pe_int (fun _ _ => rfl)) (pa_cons (pe_ix ix_tup (pv 5) pe_int (fun _ _ => rfl)) pa_nil))) (pv 4) rfl)))))))
    (pss_one (ps_ret (pe_un un_neg pe_int))))), ?_⟩
  intro M hM nd
  have s1 := (Same.refl H).upd_new (o := NdO P w M []) hM
  generalize upd H M (NdO P w M []) = H1 at s1 nd
  have lus : (us.map V.ref).length = xs.length := by rw [List.length_map, hX.1]
  refine ⟨_, rfl, tR, _, rfl, .inr (SqT.of (s1 _ _ hR)), _, rfl, by rw [lus]; omega, by rw [lus]; omega, for_range (n := (((us.map V.ref).length : Nat) : Int).toNat) (fun i σ H' => ∃ (x4 x5 x6 : Option V) (kvs : List (NKey × V)), σ = [some (.ref d), some (.int m), some (.ref tR), some (.ref M), x4, x5, x6] ∧ Same H H' ∧ NdAt P w H' M kvs ∧ kvs.length = i ∧ (∀ e : XE, (valV kvs (nkX e)).isSome = true ↔ xk e ∈ (xs.take i).map xk) ∧ xfl rows m (xs.take i) (xs.drop i) i = xfl rows m [] xs 0) ⟨none, none, none, [], rfl, s1, nd, rfl, fun e => by simp [valV], rfl⟩ ?_ ?_⟩
  · rintro i σ H2 hi ⟨x4, x5, x6, kvs, rfl, s2, nd2, lk, hk, hx⟩
    rw [Int.toNat_natCast, lus] at hi
    have e0 : (0 : Int) + ((i : Nat) : Int) = ((i : Nat) : Int) := by omega
    rw [e0]
    have hui := List.getElem?_eq_getElem (show i < us.length by rw [hX.1]; exact hi)
    have hqi := List.getElem?_eq_getElem hi
    obtain ⟨bb, w1, w2⟩ := hX.2 i _ _ hui hqi
    have lbi := lb _ (List.getElem_mem hi)
    obtain ⟨g1, g2⟩ := xfl_at (rows := rows) (m := m) hqi
    have etk := take_snoc' hqi
    generalize us[i]'(by rw [hX.1]; exact hi) = u at hui w1
    generalize xs[i] = en at hqi w1 w2 g1 g2 lbi etk
    have w1 := s2 _ _ w1
    have w2 := s2 _ _ w2
    have nMl : ∀ {t : Addr} {ys : List V}, H2 t = some (.tup ys) → t ≠ M := fun {t ys} h e => by
      obtain ⟨_, _, _, _, h4⟩ := nd2
      rw [e, h4] at h
      unfold NdO at h
      cases h
    obtain ⟨z, ss, sv⟩ := en
    have w1 : H2 u = some (.tup [.str z, .ref bb, .int sv]) := w1
    have w2 : H2 bb = some (.tup (iV ss)) := w2
    have lbi : ss.length ≤ 100 := lbi
    have done : XBad rows m (xs.take i) (z, ss, sv) → ∀ H', Same H H' → Q (.int ((i : Nat) : Int)) H' := fun c H' s => by
      have := key H' s
      unfold xfI at this
      rw [← hx, g1 c] at this
      exact this
    have gd := DGet.k (k := .inr z) (s2 _ _ hd)
    refine ⟨_, rfl, _, rfl, tR, _, _, _, rfl, rfl, SqT.of (s2 _ _ hR), at_ofG (j := i) rfl (by rw [List.getElem?_map, hui]; rfl), ?_⟩
    -- the first if
    refine ⟨fun σ H' => (σ = [some (.ref d), some (.int m), some (.ref tR), some (.ref M), some (.int ((i : Nat) : Int)), some (.ref u), x6] ∧ H2 = H') ∧ HasN rows z ∧ ss.length = wR rows z, ?_, ?_⟩
    · by_cases hz : HasN rows z
      · rw [val_wL R hz] at gd
        refine ⟨_, rfl, u, _, _, _, rfl, rfl, SqT.of w1, atI_nat (j := 0) rfl, _, rfl, d, _, rfl, gd, _, rfl, ifn (by simp) ?_⟩
        refine ⟨_, rfl, u, _, _, _, rfl, rfl, SqT.of w1, atI_nat (j := 1) rfl, bb, _, rfl, .inr (SqT.of w2), _, rfl, _, rfl, u, _, _, _, rfl, rfl, SqT.of w1, atI_nat (j := 0) rfl, d, _, rfl, gd, rfl, _, rfl, ite2 (fun c => ?_) (fun c => ?_)⟩
        · rw [iV_len] at c
          exact ⟨_, rfl, done (.inr (.inl fun e => by have e : ss.length = wR rows z := e; rw [e] at c; simp at c)) H2 s2⟩
        · rw [iV_len] at c
          refine ⟨⟨rfl, rfl⟩, hz, ?_⟩
          have : ¬ ¬ ((ss.length : Nat) : Int) = ((wR rows z : Nat) : Int) := fun h => c (by simpa using h)
          omega
      · rw [nd_inr R hz] at gd
        refine ⟨_, rfl, u, _, _, _, rfl, rfl, SqT.of w1, atI_nat (j := 0) rfl, _, rfl, d, _, rfl, gd, _, rfl, ifp (by rfl) ?_⟩
        exact ⟨_, rfl, done (.inl hz) H2 s2⟩
    rintro σ H' ⟨⟨rfl, rfl⟩, hz, hl⟩
    -- the states
    refine ⟨_, rfl, u, _, _, _, rfl, rfl, SqT.of w1, atI_nat (j := 1) rfl, _, rfl, u, _, _, _, rfl, rfl, SqT.of w1, atI_nat (j := 2) rfl, le_line (show 1 ≤ 10000000 by decide), fun p hp => ?_⟩
    have s3 := (Same.refl H2).upd_new (o := .tup [.int sv]) hp
    have e3 : (upd H2 p (.tup [.int sv])) p = some (.tup (iV [sv])) := upd_same
    generalize upd H2 p (.tup [.int sv]) = H3 at s3 e3
    refine catA_i (s3 _ _ w2) e3 (by show ss.length + 1 ≤ 10000000; omega) fun r H4 s4 h4 => ?_
    have s24 := s3.trans s4
    refine ⟨r, rfl, ⟨_, SqT.of h4⟩, for_tup (xs := iV (ss ++ [sv])) (fun j σ H' => ∃ x6 : Option V, (σ = [some (.ref d), some (.int m), some (.ref tR), some (.ref M), some (.int ((i : Nat) : Int)), some (.ref u), x6] ∧ H4 = H') ∧ ∀ k s, k < j → (ss ++ [sv])[k]? = some s → InS m s) ⟨x6, ⟨rfl, rfl⟩, fun k s h => absurd h (Nat.not_lt_zero _)⟩ (fun j σ H' _ ⟨_, ⟨_, e⟩, _⟩ => e ▸ SqT.of h4) ?_ ?_⟩
    · rintro j v σ H5 hv ⟨y6, ⟨rfl, rfl⟩, hin⟩
      have hj : j < (ss ++ [sv]).length := by rw [← iV_len (ss ++ [sv])]; exact (List.getElem?_eq_some_iff.mp hv).1
      have hs := List.getElem?_eq_getElem hj
      rw [iV_at hs] at hv
      injection hv with hv
      subst hv
      have hm := List.getElem_mem hj
      generalize (ss ++ [sv])[j] = y at hs hm
      have bad : ¬ InS m y → Q (.int ((i : Nat) : Int)) H4 := fun hn => done (.inr (.inr (.inr ⟨y, hm, hn⟩))) _ (s2.trans s24)
      have good : InS m y → ∀ k s, k < j + 1 → (ss ++ [sv])[k]? = some s → InS m s := fun hy k s hk hs' => by
        by_cases e : k = j
        · subst e
          rw [hs] at hs'
          cases hs'
          exact hy
        · exact hin k s (by omega) hs'
      refine ⟨_, rfl, _, _, rfl, rfl, _, rfl, ite2 (fun c => ⟨_, rfl, _, _, rfl, rfl, ?_⟩) (fun c => ?_)⟩
      · have c := of_decide_eq_true c
        refine ⟨_, rfl, ite2 (fun c2 => ?_) (fun c2 => ?_)⟩
        · exact ⟨_, rfl, bad fun h => by have := h.2; simp at c2; omega⟩
        · exact ⟨_, ⟨rfl, rfl⟩, good ⟨c, by simp at c2; exact c2⟩⟩
      · exact ⟨false, rfl, ifp rfl ⟨_, rfl, bad fun h => c (decide_eq_true h.1)⟩⟩
    rintro σ H' ⟨y6, ⟨rfl, rfl⟩, hin⟩
    rw [iV_len] at hin
    have hall : ∀ y ∈ ss ++ [sv], InS m y := fun y hy => by
      obtain ⟨k, hk'⟩ := List.mem_iff_getElem?.mp hy
      exact hin k y (List.getElem?_eq_some_iff.mp hk').1 hk'
    have w1 := s24 _ _ w1
    have w2 := s24 _ _ w2
    have nd4 := nd2.sm s24
    have s04 := s2.trans s24
    -- met before?
    refine ⟨fun σ H' => (∃ x, σ = [some (.ref d), some (.int m), some (.ref tR), some (.ref M), some (.int ((i : Nat) : Int)), some (.ref u), x]) ∧ Same H4 H' ∧ xk (z, ss, sv) ∉ (xs.take i).map xk, ?_, ?_⟩
    · refine ⟨_, rfl, u, _, _, _, rfl, rfl, SqT.of w1, atI_nat (j := 0) rfl, _, rfl, u, _, _, _, rfl, rfl, SqT.of w1, atI_nat (j := 1) rfl, le_line (show 2 ≤ 10000000 by decide), fun pk hpk => ?_⟩
      have s5 := (Same.refl H4).upd_new (o := .tup [.str z, .ref bb]) hpk
      have p5 : (upd H4 pk (.tup [.str z, .ref bb])) pk = some (.tup [.str z, .ref bb]) := upd_same
      generalize upd H4 pk (.tup [.str z, .ref bb]) = H5 at s5 p5
      have nk : NKAt H5 (nkX (z, ss, sv)) pk := ⟨bb, p5, by
        rw [s5 _ _ w2]
        show _ = some (HO.tup ((ikey ss).map kV))
        rw [ikey_V]⟩
      refine ⟨_, rfl, M, pk, _, _, rfl, rfl, nd4.sm s5, nk, _, rfl, ite2 (fun c => ?_) (fun c => ?_)⟩
      · exact ⟨_, rfl, done (.inr (.inr (.inl ((hk (z, ss, sv)).mp c)))) _ (s04.trans s5)⟩
      · exact ⟨⟨_, rfl⟩, s5, fun h => c ((hk (z, ss, sv)).mpr h)⟩
    rintro σ H5 ⟨⟨y7, rfl⟩, s5, hno⟩
    have w1 := s5 _ _ w1
    have w2 := s5 _ _ w2
    have nd5 := nd4.sm s5
    have hnone : valV kvs (nkX (z, ss, sv)) = none := by
      cases e : valV kvs (nkX (z, ss, sv)) with
      | none => rfl
      | some v => exact absurd ((hk (z, ss, sv)).mp (by rw [e]; rfl)) hno
    refine ⟨_, rfl, _, rfl, _, rfl, u, _, _, _, rfl, rfl, SqT.of w1, atI_nat (j := 0) rfl, _, rfl, u, _, _, _, rfl, rfl, SqT.of w1, atI_nat (j := 1) rfl, le_line (show 2 ≤ 10000000 by decide), fun pk hpk => ?_⟩
    have s6 := (Same.refl H5).upd_new (o := .tup [.str z, .ref bb]) hpk
    have p6 : (upd H5 pk (.tup [.str z, .ref bb])) pk = some (.tup [.str z, .ref bb]) := upd_same
    generalize upd H5 pk (.tup [.str z, .ref bb]) = H6 at s6 p6
    have nk : NKAt H6 (nkX (z, ss, sv)) pk := ⟨bb, p6, by
      rw [s6 _ _ w2]
      show _ = some (HO.tup ((ikey ss).map kV))
      rw [ikey_V]⟩
    refine ⟨M, pk, kvs, nkX (z, ss, sv), rfl, rfl, nd5.sm s6, nk, hnone, lt_line (by omega), fun H7 ot nd7 => ?_⟩
    have hM0 : H M = none := hM
    refine ⟨_, _, y7, _, rfl, fun b o h => ?_, nd7, by rw [List.length_append, lk]; rfl, fun e => ?_, ?_⟩
    · rw [ot b (fun e => by rw [e, hM0] at h; cases h)]
      exact ((s04.trans s5).trans s6) b o h
    · rw [etk, List.map_append, List.mem_append, ← hk e]
      by_cases c : nkX (z, ss, sv) = nkX e
      · have hv : valV (kvs ++ [(nkX (z, ss, sv), V.int ((i : Nat) : Int))]) (nkX e) = some (.int ((i : Nat) : Int)) := by rw [← c]; exact valV_last hnone
        rw [hv]
        exact ⟨fun _ => .inr (by rw [List.map_cons, List.map_nil, List.mem_singleton]; exact (nkX_inj c).symm), fun _ => rfl⟩
      · rw [valV_app_ne c]
        refine ⟨fun h => .inl h, fun h => h.resolve_right fun h2 => c ?_⟩
        rw [List.map_cons, List.map_nil, List.mem_singleton] at h2
        unfold nkX
        obtain ⟨q1, q2⟩ := Prod.mk.inj (show (e.1, e.2.1) = (z, ss) from h2)
        rw [q1, q2]
    · rw [g2 (by
        rintro (h | h | h | ⟨y, hy, hn⟩)
        · exact h hz
        · exact h hl
        · exact hno h
        · exact hn (hall y hy)), hx]
  · rintro σ H2 ⟨x4, x5, x6, kvs, rfl, s2, nd2, lk, hk, hx⟩
    rw [Int.toNat_natCast, lus, xfl_end] at hx
    have := key H2 s2
    unfold xfI at this
    rw [← hx] at this
    exact ⟨_, rfl, this⟩
end
end Sh
end
section
set_option Elab.async false
set_option linter.all false
set_option maxRecDepth 100000
set_option maxHeartbeats 16000000
namespace Sh
open PySem PySem.Spec PyProof.Rows L2 NdefX LamX
open C8 (pss_cut tCut)
open Evl (ixN_nat)
noncomputable def cdL (rows : List Row) (m : Int) (xs : List XE) (ms : List Int) (o : Int) (tM : Addr) : List V := match rdDue rows m xs ms o with
  | some .many => [.str "TooMany", .str "states", .int 40, .bl true]
  | some (.at i) => [.str "InvalidReader", .int i, .bl true]
  | none => [.str "made", .int m, .ref tM]
def spCreDue (P : Program) (w : World) : Sp := fun vs H Q _ => ∃ (d tR tM : Addr) (m o : Int) (us : List Addr) (rows : List Row) (xs : List XE) (ms : List Int), vs = [.ref d, .int m, .ref tR, .ref tM, .int o] ∧ H d = some (.dK (wL rows)) ∧ ROk 4 rows ∧ H tR = some (.tup (us.map V.ref)) ∧ XwAt H us xs ∧ xs.length ≤ 20000 ∧ (∀ e ∈ xs, e.2.1.length ≤ 100) ∧ H tM = some (.tup (iV ms)) ∧ ms.length ≤ 1000 ∧
  ∀ H' p, Same H H' → H' p = some (.tup (cdL rows m xs ms o tM)) → Q (.ref p) H'
abbrev N_law_creation_due : List Str := ["sizes", "states", "rows", "marks", "spare", "place", "k"]
theorem sc_law_creation_due : FnScope N_law_creation_due ["sizes", "states", "rows", "marks", "spare"] (defScope s_law_creation_due) := ⟨rfl, rfl, rfl, by decide +kernel, rfl, by decide +kernel, by decide +kernel⟩
section
variable {P : Program} {w : World} {K : PySem.W.Frag} {mg : Str → Option Value} {base : Heap}
theorem ok_creDue (T : Bl mg) (c_law_row_fault : DefOk P w K mg base CX0 1 "_law_row_fault" (spRowFault P w)) (D : Def0 K mg "_law_creation_due" s_law_creation_due) : DefOk P w K mg base CX0 2 "_law_creation_due" (spCreDue P w) := by
  refine D.ok sc_law_creation_due (fun vs H Q E h => by obtain ⟨d, tR, tM, m, o, us, rows, xs, ms, rfl, _⟩ := h; rfl) (fun _ _ _ _ _ _ us hl => match us, hl with | [_, _, _, _, _], _ => rfl) (fun f cdv A' outer s0 H vs Q E hr h => ?_)
  obtain ⟨d, tR, tM, m, o, us, rows, xs, ms, rfl, hd, R, hR, hX, lx, lb, hM, lm, key⟩ := h
  refine ⟨_, (pss_cons (ps_if (pt_cmpR op_gt (pv 1) pe_int (nomark _))
      (pss_one (ps_ret (pe_tup (pa_cons pe_str (pa_cons pe_str (pa_cons pe_int (pa_cons pe_bl pa_nil)))))))
      pss_nil)
    (pss_cons (ps_if (pt_cmpR op_lt (pv 1) pe_int (nomark _))
      (pss_one (ps_ret (pe_tup (pa_cons pe_str (pa_cons (pe_un un_neg pe_int) (pa_cons pe_bl pa_nil))))))
      pss_nil)
    (pss_cons (ps_set (i := 5) sc_law_creation_due.nd rfl (Or.inl rfl) (pe_d c_law_row_fault (hr.mono (by decide)) pass0 (pa_cons (pv 0) (pa_cons (pv 1) (pa_cons (pv 2) pa_nil)))))
    (pss_cons (ps_if (pt_cmpR op_ge (pv 5) pe_int (nomark _))
      (pss_one (ps_ret (pe_tup (pa_cons pe_str (pa_cons (pv 5) (pa_cons pe_bl pa_nil))))))
      pss_nil)
    (pss_cons (ps_for PassesOwn.never rfl (pi_range1 (by rfl) T.b_range (pa_cons (pe_callB call_len_seq (by rfl) T.b_len boot_len (pa_cons (pv 3) pa_nil)) pa_nil)) (pg_name (i := 6) sc_law_creation_due.nd rfl (Or.inl rfl))
      (pss_one (ps_if (PW.pt (pw_or (pt_not (pt_chain op_le op_lt pe_int (pe_ix ix_tup (pv 3) (pv 6) (fun _ _ => rfl)) (pv 1))) (pw_or1 (PW.pt (pw_and (pt_cmpR op_gt (pv 6) pe_int (nomark _)) (pw_and1 (pt_cmpR op_ge (pe_ix ix_tup (pv 3) (pe_op op_sub (pv 6) pe_int) (fun _ _ => rfl)) (pe_ix ix_tup (pv 3) (pv 6) (fun _ _ => rfl)) (nomark _))))))))
        (pss_one (ps_ret (pe_tup (pa_cons pe_str (pa_cons (pe_un un_neg pe_int) (pa_cons pe_bl pa_nil))))))
        pss_nil)))
    (pss_cons (ps_if (pt_not (pt_chain op_le op_lt pe_int (pv 4) (pv 1)))
      (pss_one (ps_ret (pe_tup (pa_cons pe_str (pa_cons (pe_un un_neg pe_int) (pa_cons pe_bl pa_nil))))))
      pss_nil)
    (pss_one (ps_ret (pe_tup (pa_cons pe_str (pa_cons (pv 1) (pa_cons (pv 3) pa_nil)))))))))))), ?_⟩
  unfold cdL rdDue at key
  refine ⟨_, rfl, _, _, rfl, rfl, _, rfl, ite2 (fun c => ?_) (fun c => ?_)⟩
  · have hc : 40 < m := of_decide_eq_true c
    rw [if_pos hc] at key
    exact ⟨le_line (show 4 ≤ 10000000 by decide), fun p hp => key _ p ((Same.refl H).upd_new hp) upd_same⟩
  have hc : ¬ 40 < m := fun h => c (decide_eq_true h)
  rw [if_neg hc] at key
  refine ⟨_, rfl, _, _, rfl, rfl, _, rfl, ite2 (fun c2 => ?_) (fun c2 => ?_)⟩
  · have hc2 : m < 1 := of_decide_eq_true c2
    rw [if_pos hc2] at key
    exact ⟨_, rfl, le_line (show 3 ≤ 10000000 by decide), fun p hp => key _ p ((Same.refl H).upd_new hp) upd_same⟩
  have hc2 : ¬ m < 1 := fun h => c2 (decide_eq_true h)
  rw [if_neg hc2] at key
  refine ⟨_, rfl, _, rfl, _, rfl, d, tR, m, us, rows, xs, rfl, hd, R, hR, hX, lx, lb, fun H1 s1 => ?_⟩
  unfold xfI
  cases hxf : xfl rows m [] xs 0 with
  | some i =>
    rw [hxf] at key
    refine ⟨_, rfl, _, _, rfl, rfl, _, rfl, ifp (decide_eq_true (by show (0 : Int) ≤ ((i : Nat) : Int); omega)) ?_⟩
    exact ⟨_, rfl, le_line (show 3 ≤ 10000000 by decide), fun p hp => key _ p (s1.upd_new hp) upd_same⟩
  | none =>
  rw [hxf] at key
  have key : ∀ H' p, Same H H' → H' p = some (.tup (match (if mfl m 0 ms = false then some (RX.at (-2)) else if ¬ InS m o then some (RX.at (-3)) else none) with
    | some .many => [.str "TooMany", .str "states", .int 40, .bl true]
    | some (.at i) => [.str "InvalidReader", .int i, .bl true]
    | none => [.str "made", .int m, .ref tM])) → Q (.ref p) H' := key
  refine ⟨_, rfl, _, _, rfl, rfl, _, rfl, ifn (fun e => by have := of_decide_eq_true e; exact absurd this (by decide)) ?_⟩
  have hM1 := s1 _ _ hM
  refine ⟨_, rfl, tM, _, rfl, .inr (SqT.of hM1), _, rfl, by rw [iV_len]; omega, by rw [iV_len]; omega, for_range (n := (((iV ms).length : Nat) : Int).toNat) (fun k σ H' => ∃ (x6 : Option V) (l : Int), (σ = [some (.ref d), some (.int m), some (.ref tR), some (.ref tM), some (.int o), some (.int (-1)), x6] ∧ H1 = H') ∧ mfl m l (ms.drop k) = mfl m 0 ms ∧ 0 ≤ l ∧ (k = 0 → l = 0) ∧ ∀ j y, k = j + 1 → ms[j]? = some y → l = y + 1) ⟨none, 0, ⟨rfl, rfl⟩, rfl, Int.le_refl _, fun _ => rfl, fun j y h => absurd h.symm (Nat.succ_ne_zero _)⟩ ?_ ?_⟩
  · rintro k σ H2 hk ⟨x6, l, ⟨rfl, rfl⟩, hl, l0, lz, ls⟩
    rw [Int.toNat_natCast, iV_len] at hk
    have e0 : (0 : Int) + ((k : Nat) : Int) = ((k : Nat) : Int) := by omega
    rw [e0]
    have hs := List.getElem?_eq_getElem hk
    rw [List.drop_eq_getElem_cons hk] at hl
    generalize ms[k] = y at hs hl
    have bad : (y < l ∨ m ≤ y) → ∀ p, H1 p = none → Q (.ref p) (upd H1 p (.tup [.str "InvalidReader", .int (-2), .bl true])) := fun hb p hp => by
      rw [mfl_bad hb] at hl
      rw [if_pos hl.symm] at key
      exact key _ p (s1.upd_new hp) upd_same
    have good : ¬ (y < l ∨ m ≤ y) → ∃ (x6 : Option V) (l : Int), ([some (V.ref d), some (.int m), some (.ref tR), some (.ref tM), some (.int o), some (.int (-1)), some (.int ((k : Nat) : Int))] = [some (.ref d), some (.int m), some (.ref tR), some (.ref tM), some (.int o), some (.int (-1)), x6] ∧ H1 = H1) ∧ mfl m l (ms.drop (k + 1)) = mfl m 0 ms ∧ 0 ≤ l ∧ (k + 1 = 0 → l = 0) ∧ ∀ j y, k + 1 = j + 1 → ms[j]? = some y → l = y + 1 := fun hb => by
      rw [mfl_good hb] at hl
      refine ⟨_, y + 1, ⟨rfl, rfl⟩, hl, by omega, fun e => absurd e (Nat.succ_ne_zero _), fun j y' e h => ?_⟩
      obtain rfl : k = j := by omega
      rw [hs] at h
      cases h
      rfl
    refine ⟨_, rfl, _, rfl, tM, _, _, _, rfl, rfl, SqT.of hM1, at_ofG (j := k) rfl (iV_at hs), _, _, rfl, rfl, _, rfl, ite2 (fun c3 => ⟨_, rfl, _, _, rfl, rfl, ?_⟩) (fun c3 => ?_)⟩
    · have c3 := of_decide_eq_true c3
      refine ⟨_, rfl, ite2 (fun c4 => ?_) (fun c4 => ?_)⟩
      · exact ⟨_, rfl, le_line (show 3 ≤ 10000000 by decide), bad (.inr (by simp at c4; exact c4))⟩
      have c4 : y < m := by simp at c4; exact c4
      refine ⟨_, rfl, _, _, rfl, rfl, _, rfl, ite2 (fun c5 => ?_) (fun c5 => ?_)⟩
      · have c5 : (0 : Int) < ((k : Nat) : Int) := of_decide_eq_true c5
        obtain ⟨j, rfl⟩ : ∃ j, k = j + 1 := ⟨k - 1, by omega⟩
        have hs2 := List.getElem?_eq_getElem (show j < ms.length by omega)
        generalize ms[j] = y2 at hs2
        have el := ls j y2 rfl hs2
        refine ⟨_, rfl, _, rfl, _, _, rfl, rfl, tM, _, _, _, rfl, rfl, SqT.of hM1, at_ofG (j := j) (by omega) (iV_at hs2), _, rfl, _, rfl, tM, _, _, _, rfl, rfl, SqT.of hM1, at_ofG (j := j + 1) rfl (iV_at hs), _, _, rfl, rfl, _, rfl, ite2 (fun c6 => ?_) (fun c6 => ?_)⟩
        · exact ⟨_, rfl, le_line (show 3 ≤ 10000000 by decide), bad (.inl (by have := of_decide_eq_true c6; omega))⟩
        · exact good fun h => by
            have : ¬ y ≤ y2 := fun q => c6 (decide_eq_true q)
            omega
      · have k0 : k = 0 := by
          have : ¬ (0 : Int) < ((k : Nat) : Int) := fun q => c5 (decide_eq_true q)
          omega
        have := lz k0
        exact good fun h => by omega
    · have c3 : ¬ 0 ≤ y := fun h => c3 (decide_eq_true h)
      exact ⟨false, rfl, ifp rfl ⟨_, rfl, le_line (show 3 ≤ 10000000 by decide), bad (.inl (by omega))⟩⟩
  · rintro σ H2 ⟨x6, l, ⟨rfl, rfl⟩, hl, l0, lz, ls⟩
    rw [Int.toNat_natCast, iV_len, List.drop_length] at hl
    have hm : mfl m 0 ms = true := by rw [← hl]; rfl
    rw [hm, if_neg (by decide)] at key
    refine ⟨_, rfl, _, _, rfl, rfl, _, rfl, ite2 (fun c3 => ⟨_, rfl, _, _, rfl, rfl, ?_⟩) (fun c3 => ?_)⟩
    · have c3 := of_decide_eq_true c3
      refine ⟨_, rfl, ite2 (fun c4 => ?_) (fun c4 => ?_)⟩
      · have hn : ¬ InS m o := fun h => by have := h.2; simp at c4; omega
        rw [if_pos hn] at key
        exact ⟨_, rfl, le_line (show 3 ≤ 10000000 by decide), fun p hp => key _ p (s1.upd_new hp) upd_same⟩
      · have hy : InS m o := ⟨c3, by simp at c4; exact c4⟩
        rw [if_neg (not_not_intro hy)] at key
        exact ⟨_, rfl, _, rfl, le_line (show 3 ≤ 10000000 by decide), fun p hp => key _ p (s1.upd_new hp) upd_same⟩
    · have hn : ¬ InS m o := fun h => c3 (decide_eq_true h.1)
      rw [if_pos hn] at key
      exact ⟨false, rfl, ifp rfl ⟨_, rfl, le_line (show 3 ≤ 10000000 by decide), fun p hp => key _ p (s1.upd_new hp) upd_same⟩⟩
end
end Sh
end
section
set_option Elab.async false
set_option linter.all false
set_option maxRecDepth 100000
set_option maxHeartbeats 16000000
namespace Sh
open PySem PySem.Spec PyProof.Rows L2 NdefX LamX ClX
open C8 (pss_cut tCut)
open Evl (ixN_nat)
theorem rdx_lk (b d t : Addr) (m o : Int) : (rdFX b m d t o).lookup ("states" : Str) = some (.int m) ∧ (rdFX b m d t o).lookup ("marks" : Str) = some (.ref t) := by
  have h7 : (("marks" : Str) == "bed") = false := by decide +kernel
  have h8 : (("marks" : Str) == "states") = false := by decide +kernel
  have h9 : (("marks" : Str) == "cells") = false := by decide +kernel
  have hA : (("states" : Str) == "bed") = false := by decide +kernel
  constructor <;> simp [rdFX, List.lookup, h7, h8, h9, hA]
def spCreation (C : Addr) : Sp := fun vs H Q _ => ∃ (tR tM : Addr) (m o : Int) (us : List Addr) (rows : List Row) (xs : List XE) (ms : List Int), vs = [.str (txT rows), .int m, .ref tR, .ref tM, .int o] ∧ ROk 4 rows ∧ H tR = some (.tup (us.map V.ref)) ∧ XwAt H us xs ∧ xs.length ≤ 20000 ∧ (∀ e ∈ xs, e.2.1.length ≤ 100) ∧ H tM = some (.tup (iV ms)) ∧
  ∀ H' p, Same H H' → H' p = some (.tup (cdL rows m xs ms o tM)) → Q (.ref p) H'
abbrev N_law_creation : List Str := ["text", "states", "rows", "marks", "spare", "reader", "wrong", "much"]
theorem sc_law_creation : FnScope N_law_creation ["text", "states", "rows", "marks", "spare"] (defScope s_law_creation) := ⟨rfl, rfl, rfl, by decide +kernel, rfl, by decide +kernel, by decide +kernel⟩
section
variable {P : Program} {w : World} {K : PySem.W.Frag} {mg : Str → Option Value} {base : Heap} {C CR N CY : Addr} {A : XA} {B : XB}
theorem ok_creation (T : Bl mg) (BR : RdT K CR) (kk : K5 K mg A B N CY) (cRd : ReadC P w K mg base C) (c_ReaderX : RdCX P w K mg base C CR B 4) (D : Def0 K mg "_law_creation" s_law_creation) : DefOk P w K mg base CX0 9 "_law_creation" (spCreation C) := by
  refine D.ok sc_law_creation (fun vs H Q E h => by obtain ⟨tR, tM, m, o, us, rows, xs, ms, rfl, _⟩ := h; rfl) (fun _ _ _ _ _ _ us hl => match us, hl with | [_, _, _, _, _], _ => rfl) (fun f cdv A' outer s0 H vs Q E hr h => ?_)
  obtain ⟨tR, tM, m, o, us, rows, xs, ms, rfl, R, hR, hX, lx, lb, hM, key⟩ := h
  obtain ⟨BT, BRr⟩ := B
  have ebt : BT = A.T := kk.bt
  subst ebt
  obtain ⟨gBed, mc, pp, g, hCR, hCM, FR⟩ := cRd
  have n_TooMany : ∀ {X : Cx}, X.mg = mg → Gl X "TooMany" → Names X "TooMany" (.ref A.T) := fun e g => ⟨g, by decide, .inl (by rw [e]; exact kk.t.g)⟩
  have n_InvalidReader : ∀ {X : Cx}, X.mg = mg → Gl X "InvalidReader" → Names X "InvalidReader" (.ref BRr) := fun e g => ⟨g, by decide, .inl (by rw [e]; exact kk.r.g)⟩
  have X_TooMany := kk.t.xo
  have X_InvalidReader := kk.r.xo
  have x_YardError := kk.y
  refine ⟨_, (pss_cons (ps_try_as_many rfl rfl sc_law_creation.nd (fun W pn xe tk po => (pss_one (ps_set (i := 5) sc_law_creation.nd rfl (Or.inl rfl) (pe_readerKX c_ReaderX (hr.mono (by decide)) (fun _ => passAt tk _) (pa_cons (pe_cmeth (pe_X6 (by rfl) gBed) hCR hCM FR (hr.mono (by decide)) pass0 (pa_cons (pv 0) pa_nil)) (pa_cons (pv 1) (pa_cons (pv 2) (pa_cons (pv 3) pa_nil)))) (pk_cons (pv 4) pk_nil))))) (HdsAs.cons (i := 6) rfl rfl (n_InvalidReader rfl rfl) (fun a oe cls d pn hz hf => (pss_one (ps_ret (pe_tup (pa_cons pe_str (pa_cons (pe_xf X_InvalidReader.xf (X_InvalidReader.no "place" (by decide +kernel)) hz hf (pv 6)) (pa_cons (pe_callB (call_isD hz hf) (by rfl) T.b_isinstance (by decide +kernel) (pa_cons (pv 6) (pa_cons (pe_X (by rfl) x_YardError) pa_nil))) pa_nil))))))) (HdsAs.cons (i := 7) rfl rfl (n_TooMany rfl rfl) (fun a oe cls d pn hz hf => (pss_one (ps_ret (pe_tup (pa_cons pe_str (pa_cons (pe_xf X_TooMany.xf (X_TooMany.no "what" (by decide +kernel)) hz hf (pv 7)) (pa_cons (pe_xf X_TooMany.xf (X_TooMany.no "limit" (by decide +kernel)) hz hf (pv 7)) (pa_cons (pe_callB (call_isD hz hf) (by rfl) T.b_isinstance (by decide +kernel) (pa_cons (pv 7) (pa_cons (pe_X (by rfl) x_YardError) pa_nil))) pa_nil)))))))) .nil)))
    (pss_one (ps_ret (pe_tup (pa_cons pe_str (pa_cons (pe_fld (pv 5) rfl) (pa_cons (pe_fld (pv 5) rfl) pa_nil))))))), ?_⟩
  refine ⟨rfl, _, rfl, rows, rfl, R, fun H1 p s1 hp hB => ?_⟩
  refine ⟨_, rfl, _, rfl, _, rfl, _, rfl, rfl, rfl, fun x dx hx hdx hne => ?_⟩
  have sM : Same H1 (upd (upd H1 dx (.own x)) x (.ins CR dx [])) := ((Same.refl H1).upd_new hdx).upd_new (by rw [upd_ne (Ne.symm hne)]; exact hx)
  have hxx : (upd (upd H1 dx (.own x)) x (.ins CR dx [])) x = some (.ins CR dx []) := upd_same
  generalize upd (upd H1 dx (.own x)) x (.ins CR dx []) = H2 at sM hxx
  have s02 := s1.trans sM
  have hx0 : H x = none := s1.free hx
  unfold cdL at key
  refine ⟨x, dx, p, tR, tM, us, rows, m, o, xs, ms, rfl, hxx, hB.same sM, R, s02 _ _ hR, hX.keep (fun _ _ h => s02 _ _ h), lx, lb, s02 _ _ hM, fun y hy => ?_, fun hy H3 d k3 h3 => ⟨rfl, ?_⟩⟩
  · rw [hy] at key
    cases y with
    | many =>
      intro H4 dd s4 hd
      refine ⟨false, kk.tr, (fun e => nomatch e), fun _ => ⟨true, kk.t.xo.me, fun _ a ha => ?_, fun e => nomatch e⟩⟩
      have s5 := (s02.trans s4).upd_new (o := .xd (RX.fs .many)) hd
      refine ⟨_, rfl, rfl, rfl, dd, _, _, rfl, upd_same, fs_tm.2.2.1, _, rfl, rfl, rfl, dd, _, _, rfl, upd_same, fs_tm.2.2.2, ?_⟩
      refine ⟨_, rfl, _, dd, _, _, .ref CY, _, rfl, rfl, rfl, upd_same, kk.t.ex, fun _ h => h, kk.t.ky, ?_⟩
      exact ⟨le_line (show 4 ≤ 10000000 by decide), fun q hq => key _ q (s5.upd_new hq) upd_same⟩
    | «at» i =>
      intro H4 dd s4 hd
      refine ⟨true, kk.r.xo.me, fun _ a ha => ?_, fun e => nomatch e⟩
      have s5 := (s02.trans s4).upd_new (o := .xd (RX.fs (.at i))) hd
      refine ⟨_, rfl, rfl, rfl, dd, _, _, rfl, upd_same, fs_one _ _, ?_⟩
      refine ⟨_, rfl, _, dd, _, _, .ref CY, _, rfl, rfl, rfl, upd_same, kk.r.ex, fun _ h => h, kk.r.ky, ?_⟩
      exact ⟨le_line (show 3 ≤ 10000000 by decide), fun q hq => key _ q (s5.upd_new hq) upd_same⟩
  · rw [hy] at key
    have s03 : Same H H3 := fun q o h => k3 q o (s02 _ _ h) (fun e => by rw [e, hx0] at h; cases h)
    obtain ⟨l1, l2⟩ := rdx_lk p d tM m o
    refine ⟨_, rfl, x, CR, dx, _, _, rfl, h3, BR.cl, BR.nS, l1, _, rfl, x, CR, dx, _, _, rfl, h3, BR.cl, BR.nM, l2, le_line (show 3 ≤ 10000000 by decide), fun q hq => ?_⟩
    exact key _ q (s03.upd_new hq) upd_same
end
end Sh
end
section
set_option Elab.async false
set_option linter.all false
set_option maxRecDepth 100000
set_option maxHeartbeats 16000000
namespace Sh
open PySem PySem.Spec PyProof.Rows L2 NdefX LamX
open C8 (pss_cut tCut)
open Evl (ixN_nat)
theorem slA_lo_tp {K : PySem.W.Frag} {H : Hp} {a : Addr} {xs : List V} {Q : VK} {j : Nat} (ha : H a = some (.tup xs)) (hj : j ≤ xs.length) (k : ∀ r H', Same H H' → H' r = some (.tup (xs.take j)) → Q (.ref r) H') : rSlA K (.ref a) none (some (j : Int)) H Q := by
  have e2 : HT.sIx xs.length xs.length (some (j : Int)) = j := by rw [HT.sIx_nat]; omega
  have e1 : HT.sIx xs.length 0 none = 0 := rfl
  refine ⟨a, xs, rfl, SqT.of ha, fun h => ?_, fun _ p hp => ?_⟩
  · rw [e2] at h
    refine k a H (Same.refl H) ?_
    rw [h.2, List.take_length]
    exact ha
  · have hc : cutV xs none (some (j : Int)) = xs.take j := by
      unfold cutV
      rw [e1, e2, List.drop_zero, Nat.sub_zero]
    rw [hc]
    exact k p _ ((Same.refl H).upd_new hp) upd_same
theorem slA_hi_tp {K : PySem.W.Frag} {H : Hp} {a : Addr} {xs : List V} {Q : VK} {i : Nat} (ha : H a = some (.tup xs)) (hi : i ≤ xs.length) (k : ∀ r H', Same H H' → H' r = some (.tup (xs.drop i)) → Q (.ref r) H') : rSlA K (.ref a) (some (i : Int)) none H Q := by
  have e1 : HT.sIx xs.length 0 (some (i : Int)) = i := by rw [HT.sIx_nat]; omega
  have e2 : HT.sIx xs.length xs.length none = xs.length := rfl
  refine ⟨a, xs, rfl, SqT.of ha, fun h => ?_, fun _ p hp => ?_⟩
  · rw [e1] at h
    refine k a H (Same.refl H) ?_
    rw [h.1, List.drop_zero]
    exact ha
  · have hc : cutV xs (some (i : Int)) none = xs.drop i := by
      unfold cutV
      rw [e1, e2]
      exact List.take_of_length_le (by rw [List.length_drop]; omega)
    rw [hc]
    exact k p _ ((Same.refl H).upd_new hp) upd_same
theorem XwAt.take {H : Hp} {us : List Addr} {xs : List XE} (x : XwAt H us xs) (n : Nat) : XwAt H (us.take n) (xs.take n) := ⟨by rw [List.length_take, List.length_take, x.1], fun i u e h1 h2 => by
  rw [List.getElem?_take] at h1 h2
  split at h1
  · rename_i c
    rw [if_pos c] at h2
    exact x.2 i u e h1 h2
  · cases h1⟩
theorem XwAt.drop {H : Hp} {us : List Addr} {xs : List XE} (x : XwAt H us xs) (n : Nat) : XwAt H (us.drop n) (xs.drop n) := ⟨by rw [List.length_drop, List.length_drop, x.1], fun i u e h1 h2 => by
  rw [List.getElem?_drop] at h1 h2
  exact x.2 _ u e h1 h2⟩
theorem XwAt.app {H : Hp} {us vs : List Addr} {xs ys : List XE} (x : XwAt H us xs) (y : XwAt H vs ys) : XwAt H (us ++ vs) (xs ++ ys) := ⟨by rw [List.length_append, List.length_append, x.1, y.1], fun i u e h1 h2 => by
  by_cases c : i < us.length
  · rw [List.getElem?_append_left c] at h1
    rw [List.getElem?_append_left (by rw [← x.1]; exact c)] at h2
    exact x.2 i u e h1 h2
  · rw [List.getElem?_append_right (by omega)] at h1
    rw [List.getElem?_append_right (by rw [← x.1]; omega), ← x.1] at h2
    exact y.2 _ u e h1 h2⟩
theorem XwAt.one {H : Hp} {p : Addr} {e : XE} (x : XeAt H p e) : XwAt H [p] [e] := ⟨rfl, fun i u e' h1 h2 => by
  match i, h1, h2 with
  | 0, h1, h2 => cases h1; cases h2; exact x⟩
theorem XeAt.keep {H H' : Hp} {p : Addr} {e : XE} (x : XeAt H p e) (k : ∀ t ys, H t = some (.tup ys) → H' t = some (.tup ys)) : XeAt H' p e := by
  obtain ⟨b, h1, h2⟩ := x
  exact ⟨b, k _ _ h1, k _ _ h2⟩
def toX (e : REnt) : XE := (e.1, e.2.1.map (fun i => ((i : Nat) : Int)), ((e.2.2 : Nat) : Int))
theorem xw_of {H : Hp} {us : List Addr} {rs : List REnt} (h : RwAt H us rs) : XwAt H us (rs.map toX) := ⟨by rw [List.length_map, h.1], fun i u e h1 h2 => by
  rw [List.getElem?_map] at h2
  obtain ⟨r, hr, rfl⟩ := Option.map_eq_some_iff.mp h2
  obtain ⟨b, p1, p2⟩ := h.2 i u r h1 hr
  exact ⟨b, p1, by rw [p2, nI_iV]; rfl⟩⟩
theorem cdL_sam {H : Hp} {rows : List Row} {m : Int} {xs : List XE} {ms : List Int} {o : Int} {tM p q : Addr} (hM : H tM = some (.tup (iV ms))) (lm : ms.length ≤ 1000) (hp : H p = some (.tup (cdL rows m xs ms o tM))) (hq : H q = some (.tup (cdL rows m xs ms o tM))) : Sam6 4 H (.ref p) (.ref q) := by
  unfold cdL at hp hq
  cases e : rdDue rows m xs ms o with
  | some y =>
    rw [e] at hp hq
    cases y with
    | many =>
      refine sam_flat (n := 2) hp hq (by show 4 ≤ 10000000; decide) fun x hx => ?_
      simp at hx
      rcases hx with rfl | rfl | rfl | rfl
      · exact .inr (.inl ⟨_, rfl⟩)
      · exact .inr (.inl ⟨_, rfl⟩)
      · exact .inl ⟨_, rfl⟩
      · exact .inr (.inr ⟨_, rfl⟩)
    | «at» i =>
      refine sam_flat (n := 2) hp hq (by show 3 ≤ 10000000; decide) fun x hx => ?_
      simp at hx
      rcases hx with rfl | rfl | rfl
      · exact .inr (.inl ⟨_, rfl⟩)
      · exact .inl ⟨_, rfl⟩
      · exact .inr (.inr ⟨_, rfl⟩)
  | none =>
    rw [e] at hp hq
    refine .inr (.inr (.inr ⟨p, q, _, _, rfl, rfl, hp, hq, rfl, by show 3 ≤ 10000000; decide, fun i x y hx hy => ?_⟩))
    match i, hx, hy with
    | 0, hx, hy => cases hx; cases hy; exact .inr (.inl ⟨_, rfl, rfl⟩)
    | 1, hx, hy => cases hx; cases hy; exact .inl ⟨_, rfl, rfl⟩
    | 2, hx, hy =>
      cases hx
      cases hy
      refine sam_flat (n := 1) hM hM (by rw [iV_len]; omega) fun x hx => ?_
      obtain ⟨i, _, rfl⟩ := List.mem_map.mp hx
      exact .inl ⟨_, rfl⟩
def spCreRight (P : Program) (w : World) : Sp := fun vs H Q _ => ∃ (x kd a : Addr) (ts : List Addr) (rows : List Row) (D : RdD) (ex : List V), vs = [.ref x, .ref kd, .ref a] ∧ BxT H x ∧ H kd = some (.tup (ts.map V.ref)) ∧ TupsAt H ts rows ∧ ROk 4 rows ∧ D.Ok rows ∧ LrA P w H a D ex ∧ ∀ H', Kp x H H' → BxT H' x → Q (.bl true) H'
abbrev N_law_creation_right : List Str := ["box", "kinds", "drawn", "many", "rows", "states", "turn", "place", "way", "marks", "spare", "due"]
theorem sc_law_creation_right : FnScope N_law_creation_right ["box", "kinds", "drawn"] (defScope s_law_creation_right) := ⟨rfl, rfl, rfl, by decide +kernel, rfl, by decide +kernel, by decide +kernel⟩
section
variable {P : Program} {w : World} {K : PySem.W.Frag} {mg : Str → Option Value} {base : Heap} {C : Addr}
theorem ok_creRight (T : Bl mg) (c_law_take : DefOk P w K mg base CX0 1 "_law_take" spTake) (c_law_bad_row : DefOk P w K mg base CX0 3 "_law_bad_row" spBadRow) (c_law_sizes : DefOk P w K mg base CX0 1 "_law_sizes" spSizes) (c_law_text : DefOk P w K mg base CX0 1 "_law_text" spText6) (c_law_same : DefOk P w K mg base CX0 4 "_law_same" (spSam6 4)) (c_law_creation_due : DefOk P w K mg base CX0 2 "_law_creation_due" (spCreDue P w)) (c_law_creation : DefOk P w K mg base CX0 9 "_law_creation" (spCreation C)) (D : Def0 K mg "_law_creation_right" s_law_creation_right) : DefOk P w K mg base CX0 10 "_law_creation_right" (spCreRight P w) := by
  refine D.ok sc_law_creation_right (fun vs H Q E h => by obtain ⟨x, kd, a, ts, rows, D, ex, rfl, _⟩ := h; rfl) (fun _ _ _ _ _ _ us hl => match us, hl with | [_, _, _], _ => rfl) (fun f cdv A' outer s0 H vs Q E hr h => ?_)
  obtain ⟨x, kd, a, ts, rows, D, ex, rfl, hx, hk, hT, R, hD, hA, key⟩ := h
  have m40 := hD.m3
  have m1 := hD.m1
  have nkx := hx.ne_tup hk
  have nax := lr_ne hA hx
  refine ⟨_, (pss_cons (ps_set (i := 3) sc_law_creation_right.nd rfl (Or.inl rfl) (pe_ix ix_list (pv 2) pe_int (fun _ _ => rfl)))
    (pss_cons (ps_set (i := 4) sc_law_creation_right.nd rfl (Or.inl rfl) (pe_ix ix_list (pv 2) pe_int (fun _ _ => rfl)))
    (pss_cons (ps_set (i := 5) sc_law_creation_right.nd rfl (Or.inl rfl) (pe_ix ix_list (pe_lst (pa_cons (pv 3) (pa_cons pe_int (pa_cons (pv 3) (pa_cons pe_int (pa_cons (pv 3) (pa_cons pe_int (pa_cons (pv 3) (pa_cons (pe_un un_neg pe_int) pa_nil))))))))) (pe_d c_law_take (hr.mono (by decide)) pass0 (pa_cons (pv 0) (pa_cons pe_int pa_nil))) (fun _ _ => rfl)))
    (pss_cut (ps_if (pt_cmpR op_eq (pv 5) pe_int (nomark _))
      (pss_one (ps_set (i := 5) sc_law_creation_right.nd rfl (Or.inl rfl) (pe_op op_add (pv 5) (pe_d c_law_take (hr.mono (by decide)) pass0 (pa_cons (pv 0) (pa_cons pe_int pa_nil))))))
      pss_nil)
    (pss_cut (ps_if (pt_cmpR op_eq (pv 5) (pe_un un_neg pe_int) (nomark _))
      (pss_one (ps_set (i := 5) sc_law_creation_right.nd rfl (Or.inl rfl) (pe_op op_sub (pv 5) (pe_d c_law_take (hr.mono (by decide)) pass0 (pa_cons (pv 0) (pa_cons pe_int pa_nil))))))
      pss_nil)
    (pss_cons (ps_for PassesOwn.never rfl (pi_range1 (by rfl) T.b_range (pa_cons (pe_ix ix_list (pe_lst (pa_cons pe_int (pa_cons pe_int (pa_cons pe_int (pa_cons pe_int pa_nil))))) (pe_d c_law_take (hr.mono (by decide)) pass0 (pa_cons (pv 0) (pa_cons pe_int pa_nil))) (fun _ _ => rfl)) pa_nil)) (pg_name (i := 6) sc_law_creation_right.nd rfl (Or.inl rfl))
      (pss_cons (ps_set (i := 7) sc_law_creation_right.nd rfl (Or.inl rfl) (pe_d c_law_take (hr.mono (by decide)) pass0 (pa_cons (pv 0) (pa_cons (pe_op op_add (pe_callB call_len_seq (by rfl) T.b_len boot_len (pa_cons (pv 4) pa_nil)) pe_int) pa_nil))))
      (pss_one (ps_set (i := 4) sc_law_creation_right.nd rfl (Or.inl rfl) (pe_op op_catA (pe_op op_catA (pe_slice sl_tupA (pv 4) po_none (po_some (pv 7))) (pe_tup (pa_cons (pe_d c_law_bad_row (hr.mono (by decide)) pass0 (pa_cons (pv 0) (pa_cons (pv 1) (pa_cons (pv 3) (pa_cons (pv 4) (pa_cons (pv 7) pa_nil)))))) pa_nil))) (pe_slice sl_tupA (pv 4) (po_some (pv 7)) po_none))))))
    (pss_cons (ps_set (i := 8) sc_law_creation_right.nd rfl (Or.inl rfl) (pe_d c_law_take (hr.mono (by decide)) pass0 (pa_cons (pv 0) (pa_cons pe_int pa_nil))))
    (pss_cons (ps_set (i := 9) sc_law_creation_right.nd rfl (Or.inl rfl) (pe_ix ix_list (pv 2) pe_int (fun _ _ => rfl)))
    (pss_cut (ps_if (pt_cmpR op_eq (pv 8) pe_int (nomark _))
      (pss_one (ps_set (i := 9) sc_law_creation_right.nd rfl (Or.inl rfl) (pe_op op_catA (pv 9) (pe_tup (pa_cons (pv 3) pa_nil)))))
      pss_nil)
    (pss_cut (ps_if (pt_cmpR op_eq (pv 8) pe_int (nomark _))
      (pss_one (ps_set (i := 9) sc_law_creation_right.nd rfl (Or.inl rfl) (pe_op op_catA (pe_tup (pa_cons (pe_un un_neg pe_int) pa_nil)) (pv 9))))
      pss_nil)
    (pss_cut (ps_if (pt_cmpR op_eq (pv 8) pe_int (nomark _))
      (pss_one (ps_set (i := 9) sc_law_creation_right.nd rfl (Or.inl rfl) (pe_op op_catA (pv 9) (pe_slice sl_tupA (pv 9) (po_some (pe_un un_neg pe_int)) po_none))))
      pss_nil)
    (pss_cut (ps_if (pt_cmpR op_eq (pv 8) pe_int (nomark _))
      (pss_one (ps_set (i := 9) sc_law_creation_right.nd rfl (Or.inl rfl) (pe_revT (pv 9))))
      pss_nil)
    (pss_cons (ps_set (i := 10) sc_law_creation_right.nd rfl (Or.inl rfl) (pe_ix ix_list (pe_lst (pa_cons (pe_ix ix_list (pv 2) pe_int (fun _ _ => rfl)) (pa_cons (pe_ix ix_list (pv 2) pe_int (fun _ _ => rfl)) (pa_cons (pe_ix ix_list (pv 2) pe_int (fun _ _ => rfl)) (pa_cons (pv 3) (pa_cons (pe_un un_neg pe_int) (pa_cons (pe_op op_add (pv 3) pe_int) pa_nil))))))) (pe_d c_law_take (hr.mono (by decide)) pass0 (pa_cons (pv 0) (pa_cons pe_int pa_nil))) (fun _ _ => rfl)))
    (pss_cons (ps_set (i := 11) sc_law_creation_right.nd rfl (Or.inl rfl) (pe_d c_law_creation_due (hr.mono (by decide)) pass0 (pa_cons (pe_d c_law_sizes (hr.mono (by decide)) pass0 (pa_cons (pv 1) pa_nil)) (pa_cons (pv 5) (pa_cons (pv 4) (pa_cons (pv 9) (pa_cons (pv 10) pa_nil)))))))
    (pss_one (ps_ret (pe_d c_law_same (hr.mono (by decide)) pass0 (pa_cons (pe_d c_law_creation (hr.mono (by decide)) pass0 (pa_cons (pe_d c_law_text (hr.mono (by decide)) pass0 (pa_cons (pv 1) pa_nil)) (pa_cons (pv 5) (pa_cons (pv 4) (pa_cons (pv 9) (pa_cons (pv 10) pa_nil)))))) (pa_cons (pv 11) pa_nil))))))))))))))))))), ?_⟩
  obtain ⟨tR, tM, tS, vR, a1, a2, a3, a4, a5⟩ := id hA
  have aat : ∀ (j : Nat) (v : V), ([.int ((D.many : Nat) : Int), .ref tR, .int ((D.rest : Nat) : Int), .ref tM, .ref tS] : List V)[j]? = some v → ([.int ((D.many : Nat) : Int), .ref tR, .int ((D.rest : Nat) : Int), .ref tM, .ref tS] ++ ex : List V)[j]? = some v := fun j v h => by
    rw [List.getElem?_append_left (List.getElem?_eq_some_iff.mp h).1]
    exact h
  have tkp : ∀ {H' : Hp} {t : Addr} {ys : List V}, Kp x H H' → H t = some (.tup ys) → H' t = some (.tup ys) := fun k h => hx.tk k _ _ h
  have hX0 := xw_of a3
  have lb0 : ∀ e ∈ D.rws.map toX, e.2.1.length ≤ 10 := fun e he => by
    obtain ⟨r, hr, rfl⟩ := List.mem_map.mp he
    have hm : ek r ∈ ksOf rows D.many := by rw [← hD.ks]; exact List.mem_map.mpr ⟨r, hD.sub r hr, rfl⟩
    obtain ⟨_, hl, _⟩ := (ks_has R).mp hm
    have hl : r.2.1.length = wR rows r.1 := hl
    have := wR_le R r.1
    show (r.2.1.map _).length ≤ 10
    rw [List.length_map]
    omega
  have lx0 : (D.rws.map toX).length ≤ 10000 := by rw [List.length_map]; exact hD.rl
  have lm0 : D.marks.length ≤ 40 := by
    have := sub_len D.marks (List.range D.many) (hD.mks.imp fun h => Nat.ne_of_lt h) fun x hx => List.mem_range.mpr (hD.ml x hx)
    rw [List.length_range] at this
    omega
  refine ⟨_, rfl, a, _, _, _, rfl, rfl, SqL.of a1, at_ofG (j := 0) rfl (aat 0 _ rfl), ?_⟩
  refine ⟨_, rfl, a, _, _, _, rfl, rfl, SqL.of a1, at_ofG (j := 1) rfl (aat 1 _ rfl), ?_⟩
  refine ⟨_, rfl, _, rfl, _, rfl, _, rfl, _, rfl, le_line (show 8 ≤ 10000000 by decide), fun L hL => ?_⟩
  have nLx : L ≠ x := hx.ne hL
  have sL := (Same.refl H).upd_new (o := .lst [.int ((D.many : Nat) : Int), .int 41, .int ((D.many : Nat) : Int), .int 0, .int ((D.many : Nat) : Int), .int 40, .int ((D.many : Nat) : Int), .int (-1)]) hL
  have eL : (upd H L (.lst [.int ((D.many : Nat) : Int), .int 41, .int ((D.many : Nat) : Int), .int 0, .int ((D.many : Nat) : Int), .int 40, .int ((D.many : Nat) : Int), .int (-1)])) L = some (.lst (([((D.many : Nat) : Int), 41, ((D.many : Nat) : Int), 0, ((D.many : Nat) : Int), 40, ((D.many : Nat) : Int), -1] : List Int).map V.int)) := upd_same
  have bL := hx.new (o := .lst [.int ((D.many : Nat) : Int), .int 41, .int ((D.many : Nat) : Int), .int 0, .int ((D.many : Nat) : Int), .int 40, .int ((D.many : Nat) : Int), .int (-1)]) hL
  refine ⟨_, rfl, x, 8, rfl, bL, by decide, by decide, fun H1 e k1 b1 he => ?_⟩
  obtain ⟨st0, hst, _⟩ := pickI (l := [((D.many : Nat) : Int), 41, ((D.many : Nat) : Int), 0, ((D.many : Nat) : Int), 40, ((D.many : Nat) : Int), -1]) (fun _ => True) (fun _ _ => trivial) (e := e) (by show e < 8; omega)
  refine ⟨L, _, _, _, rfl, rfl, SqL.of (k1 _ _ eL nLx), at_ofG (j := e) rfl hst, ?_⟩
  have k01 := (Kp.same sL).trans k1
  -- more than 41, less than -1
  refine ⟨fun σ H' => ∃ st : Int, σ = [some (.ref x), some (.ref kd), some (.ref a), some (.int ((D.many : Nat) : Int)), some (.ref tR), some (.int st), none, none, none, none, none, none] ∧ Kp x H H' ∧ BxT H' x, ?_, ?_⟩
  · refine ⟨_, rfl, rfl, _, rfl, ite2 (fun c => ?_) (fun c => ⟨st0, rfl, k01, b1⟩)⟩
    exact ⟨_, rfl, _, rfl, x, 1000, rfl, b1, by decide, by decide, fun H2 g k2 b2 hg => ⟨_, _, rfl, rfl, _, rfl, k01.trans k2, b2⟩⟩
  rintro σ H2 ⟨st1, rfl, k2, b2⟩
  refine ⟨fun σ H' => ∃ st : Int, σ = [some (.ref x), some (.ref kd), some (.ref a), some (.int ((D.many : Nat) : Int)), some (.ref tR), some (.int st), none, none, none, none, none, none] ∧ Kp x H H' ∧ BxT H' x, ?_, ?_⟩
  · refine ⟨_, rfl, _, rfl, rfl, _, rfl, ite2 (fun c => ?_) (fun c => ⟨st1, rfl, k2, b2⟩)⟩
    exact ⟨_, rfl, _, rfl, x, 1000, rfl, b2, by decide, by decide, fun H3 g k3 b3 hg => ⟨_, _, rfl, rfl, _, rfl, k2.trans k3, b3⟩⟩
  rintro σ H3 ⟨st, rfl, k3, b3⟩
  refine ⟨le_line (show 4 ≤ 10000000 by decide), fun L2 hL2 => ?_⟩
  have nL2x : L2 ≠ x := b3.ne hL2
  have sL2 := (Same.refl H3).upd_new (o := .lst [.int 0, .int 1, .int 2, .int 0]) hL2
  have eL2 : (upd H3 L2 (.lst [.int 0, .int 1, .int 2, .int 0])) L2 = some (.lst (([0, 1, 2, 0] : List Int).map V.int)) := upd_same
  refine ⟨_, rfl, x, 4, rfl, b3.new hL2, by decide, by decide, fun H4 g k4 b4 hg => ?_⟩
  obtain ⟨tn, htn, tn0, tn2⟩ := pickI (l := [0, 1, 2, 0]) (fun z => 0 ≤ z ∧ z ≤ 2) (by decide) (e := g) (by show g < 4; omega)
  have k04 := (k3.trans (Kp.same sL2)).trans k4
  refine ⟨L2, _, _, _, rfl, rfl, SqL.of (k4 _ _ eL2 nL2x), at_ofG (j := g) rfl htn, _, rfl, by omega, by omega, ?_⟩
  refine for_range (n := tn.toNat) (fun i σ H' => ∃ (x6 x7 : Option V) (t : Addr) (us : List Addr) (xs : List XE), σ = [some (.ref x), some (.ref kd), some (.ref a), some (.int ((D.many : Nat) : Int)), some (.ref t), some (.int st), x6, x7, none, none, none, none] ∧ Kp x H H' ∧ BxT H' x ∧ H' t = some (.tup (us.map V.ref)) ∧ XwAt H' us xs ∧ xs.length ≤ 10000 + i ∧ ∀ e ∈ xs, e.2.1.length ≤ 10)
    ⟨none, none, tR, vR, _, rfl, k04, b4, tkp k04 a2, hX0.keep (fun _ _ h => tkp k04 h), lx0, lb0⟩ ?_ ?_
  · rintro i σ H5 hi ⟨x6, x7, t, us, xs, rfl, k5, b5, ht, hX, lx, lb⟩
    have i2 : i < 2 := by omega
    refine ⟨_, rfl, _, rfl, t, _, rfl, .inr (SqT.of ht), _, _, rfl, rfl, x, _, rfl, b5, by omega, by rw [List.length_map, hX.1]; omega, fun H6 pl k6 b6 hpl => ?_⟩
    rw [List.length_map, hX.1] at hpl
    have hpl : pl ≤ xs.length := by omega
    have k06 := k5.trans k6
    have ht := b5.tk k6 _ _ ht
    have hX := hX.keep (b5.tk k6)
    refine ⟨_, rfl, _, rfl, _, rfl, ?_⟩
    refine slA_lo_tp (j := pl) ht (by rw [List.length_map, hX.1]; exact hpl) fun r1 H7 s7 h7 => ?_
    rw [← List.map_take] at h7
    have b7 := b6.same s7
    have hX7 := hX.keep fun _ _ h => s7 _ _ h
    have k07 := k06.trans (Kp.same s7)
    refine ⟨_, rfl, _, rfl, _, rfl, _, rfl, _, rfl, x, kd, t, D.many, pl, ts, us, rows, xs, rfl, b7, tkp k07 hk, hT.keep (hx.tk k07), R, m1, m40, s7 _ _ ht, hX7, by omega, lb, hpl, fun H8 p e k8 b8 he hel => ?_⟩
    have tk8 := b7.tk k8
    have h7 := tk8 _ _ h7
    have ht8 := tk8 _ _ (s7 _ _ ht)
    have hX8 := hX7.keep tk8
    refine ⟨le_line (show 1 ≤ 10000000 by decide), fun p1 hp1 => ?_⟩
    have s9 := (Same.refl H8).upd_new (o := .tup [.ref p]) hp1
    have e9 : (upd H8 p1 (.tup [.ref p])) p1 = some (.tup ([p].map V.ref)) := upd_same
    generalize upd H8 p1 (.tup [.ref p]) = H9 at s9 e9
    refine catA_n (s9 _ _ h7) e9 (by rw [List.length_map, List.length_map, List.length_take]; show min pl us.length + 1 ≤ 10000000; omega) fun r2 H10 s10 h10 => ?_
    refine ⟨_, rfl, _, rfl, _, rfl, ?_⟩
    unfold tNoPart
    refine slA_hi_tp (i := pl) (s10 _ _ (s9 _ _ ht8)) (by rw [List.length_map, hX.1]; exact hpl) fun r3 H11 s11 h11 => ?_
    rw [← List.map_drop] at h11
    refine catA_n (s11 _ _ h10) h11 (by rw [List.length_append, List.length_map, List.length_map, List.length_map, List.length_take, List.length_drop, hX.1]; show min pl xs.length + 1 + (xs.length - pl) ≤ 10000000; omega) fun r4 H12 s12 h12 => ?_
    have s812 := ((s9.trans s10).trans s11).trans s12
    have hXf : XwAt H12 (us.take pl ++ [p] ++ us.drop pl) (xs.take pl ++ [e] ++ xs.drop pl) := (((hX8.take pl).app (.one he)).app (hX8.drop pl)).keep fun _ _ h => s812 _ _ h
    refine ⟨_, _, r4, _, _, rfl, (k07.trans k8).trans (Kp.same s812), b8.same s812, by rw [h12, ← List.map_append, ← List.map_append], hXf, ?_, fun e' he' => ?_⟩
    · rw [List.length_append, List.length_append, List.length_take, List.length_drop]
      show min pl xs.length + 1 + (xs.length - pl) ≤ 10000 + (i + 1)
      omega
    · rcases List.mem_append.mp he' with h | h
      · rcases List.mem_append.mp h with h | h
        · exact lb _ (List.mem_of_mem_take h)
        · rw [List.mem_singleton.mp h]; exact hel
      · exact lb _ (List.mem_of_mem_drop h)
  rintro σ H5 ⟨x6, x7, t, us, xs, rfl, k5, b5, ht, hX, lx, lb⟩
  have lx : xs.length ≤ 20000 := by omega
  refine ⟨_, rfl, x, 8, rfl, b5, by decide, by decide, fun H6 way k6 b6 hway => ?_⟩
  have k06 := k5.trans k6
  have ht := b5.tk k6 _ _ ht
  have hX := hX.keep (b5.tk k6)
  clear k5 b5 k6
  refine ⟨_, rfl, a, _, _, _, rfl, rfl, SqL.of (k06 _ _ a1 nax), at_ofG (j := 3) rfl (aat 3 _ rfl), ?_⟩
  have hM0 := tkp k06 a4
  rw [nI_iV] at hM0
  have lm1 : (D.marks.map fun i => ((i : Nat) : Int)).length ≤ 40 := by rw [List.length_map]; exact lm0
  generalize (D.marks.map fun i => ((i : Nat) : Int)) = ms0 at hM0 lm1
  -- the marks
  refine ⟨fun σ H' => ∃ (tM : Addr) (ms : List Int), σ = [some (.ref x), some (.ref kd), some (.ref a), some (.int ((D.many : Nat) : Int)), some (.ref t), some (.int st), x6, x7, some (.int ((way : Nat) : Int)), some (.ref tM), none, none] ∧ Same H6 H' ∧ H' tM = some (.tup (iV ms)) ∧ ms.length ≤ 41, ?_, ?_⟩
  · refine ⟨_, rfl, rfl, _, rfl, ite2 (fun c => ?_) (fun c => ⟨tM, ms0, rfl, Same.refl H6, hM0, by omega⟩)⟩
    refine ⟨_, rfl, _, rfl, le_line (show 1 ≤ 10000000 by decide), fun p hp => ?_⟩
    have sp := (Same.refl H6).upd_new (o := .tup [.int ((D.many : Nat) : Int)]) hp
    refine catA_i (sp _ _ hM0) (m := [((D.many : Nat) : Int)]) upd_same (by show ms0.length + 1 ≤ 10000000; omega) fun r H7 s7 h7 => ?_
    exact ⟨r, _, rfl, sp.trans s7, h7, by rw [List.length_append]; show ms0.length + 1 ≤ 41; omega⟩
  rintro σ H7 ⟨tM1, ms1, rfl, s7, hM1, lm1'⟩
  refine ⟨fun σ H' => ∃ (tM : Addr) (ms : List Int), σ = [some (.ref x), some (.ref kd), some (.ref a), some (.int ((D.many : Nat) : Int)), some (.ref t), some (.int st), x6, x7, some (.int ((way : Nat) : Int)), some (.ref tM), none, none] ∧ Same H6 H' ∧ H' tM = some (.tup (iV ms)) ∧ ms.length ≤ 42, ?_, ?_⟩
  · refine ⟨_, rfl, rfl, _, rfl, ite2 (fun c => ?_) (fun c => ⟨tM1, ms1, rfl, s7, hM1, by omega⟩)⟩
    refine ⟨_, rfl, le_line (show 1 ≤ 10000000 by decide), fun p hp => ?_⟩
    have sp := (Same.refl H7).upd_new (o := .tup [.int (-1)]) hp
    refine ⟨_, rfl, catA_i (l := [-1]) upd_same (sp _ _ hM1) (by show 1 + ms1.length ≤ 10000000; omega) fun r H8 s8 h8 => ?_⟩
    exact ⟨r, _, rfl, (s7.trans sp).trans s8, h8, by rw [List.length_append]; show 1 + ms1.length ≤ 42; omega⟩
  rintro σ H8 ⟨tM2, ms2, rfl, s8, hM2, lm2⟩
  refine ⟨fun σ H' => ∃ (tM : Addr) (ms : List Int), σ = [some (.ref x), some (.ref kd), some (.ref a), some (.int ((D.many : Nat) : Int)), some (.ref t), some (.int st), x6, x7, some (.int ((way : Nat) : Int)), some (.ref tM), none, none] ∧ Same H6 H' ∧ H' tM = some (.tup (iV ms)) ∧ ms.length ≤ 84, ?_, ?_⟩
  · refine ⟨_, rfl, rfl, _, rfl, ite2 (fun c => ?_) (fun c => ⟨tM2, ms2, rfl, s8, hM2, by omega⟩)⟩
    refine ⟨_, rfl, _, rfl, _, rfl, _, rfl, ?_⟩
    unfold tNoPart
    refine slA_i hM2 fun r1 H9 l9 s9 h9 g9 => ?_
    refine catA_i (s9 _ _ hM2) h9 (by omega) fun r H10 s10 h10 => ?_
    exact ⟨r, _, rfl, (s8.trans s9).trans s10, h10, by rw [List.length_append]; omega⟩
  rintro σ H9 ⟨tM3, ms3, rfl, s9, hM3, lm3⟩
  refine ⟨fun σ H' => ∃ (tM : Addr) (ms : List Int), σ = [some (.ref x), some (.ref kd), some (.ref a), some (.int ((D.many : Nat) : Int)), some (.ref t), some (.int st), x6, x7, some (.int ((way : Nat) : Int)), some (.ref tM), none, none] ∧ Same H6 H' ∧ H' tM = some (.tup (iV ms)) ∧ ms.length ≤ 84, ?_, ?_⟩
  · refine ⟨_, rfl, rfl, _, rfl, ite2 (fun c => ?_) (fun c => ⟨tM3, ms3, rfl, s9, hM3, by omega⟩)⟩
    refine ⟨_, rfl, tM3, _, rfl, SqT.of hM3, fun p hp => ⟨p, ms3.reverse, rfl, s9.upd_new hp, ?_, by rw [List.length_reverse]; exact lm3⟩⟩
    rw [upd_same]
    unfold iV
    rw [List.map_reverse]
  rintro σ H10 ⟨tM4, ms, rfl, s10, hM4, lm4⟩
  have k10 := k06.trans (Kp.same s10)
  have b10 := b6.same s10
  have ht := s10 _ _ ht
  have hX := hX.keep fun _ _ h => s10 _ _ h
  have hA1 := k10 _ _ a1 nax
  -- the spare
  refine ⟨_, rfl, a, _, _, _, rfl, rfl, SqL.of hA1, at_ofG (j := 2) rfl (aat 2 _ rfl), _, rfl, a, _, _, _, rfl, rfl, SqL.of hA1, at_ofG (j := 2) rfl (aat 2 _ rfl), _, rfl, a, _, _, _, rfl, rfl, SqL.of hA1, at_ofG (j := 2) rfl (aat 2 _ rfl), _, rfl, _, rfl, _, rfl, _, _, rfl, rfl, le_line (show 6 ≤ 10000000 by decide), fun L3 hL3 => ?_⟩
  have nL3x : L3 ≠ x := b10.ne hL3
  have sL3 := (Same.refl H10).upd_new (o := .lst [.int ((D.rest : Nat) : Int), .int ((D.rest : Nat) : Int), .int ((D.rest : Nat) : Int), .int ((D.many : Nat) : Int), .int (-1), .int (((D.many : Nat) : Int) + 40)]) hL3
  have eL3 : (upd H10 L3 (.lst [.int ((D.rest : Nat) : Int), .int ((D.rest : Nat) : Int), .int ((D.rest : Nat) : Int), .int ((D.many : Nat) : Int), .int (-1), .int (((D.many : Nat) : Int) + 40)])) L3 = some (.lst (([((D.rest : Nat) : Int), ((D.rest : Nat) : Int), ((D.rest : Nat) : Int), ((D.many : Nat) : Int), -1, ((D.many : Nat) : Int) + 40] : List Int).map V.int)) := upd_same
  have bL3 := b10.new (o := .lst [.int ((D.rest : Nat) : Int), .int ((D.rest : Nat) : Int), .int ((D.rest : Nat) : Int), .int ((D.many : Nat) : Int), .int (-1), .int (((D.many : Nat) : Int) + 40)]) hL3
  refine ⟨_, rfl, x, 6, rfl, bL3, by decide, by decide, fun H11 g2 k11 b11 hg2 => ?_⟩
  obtain ⟨spr, hspr, _⟩ := pickI (l := [((D.rest : Nat) : Int), ((D.rest : Nat) : Int), ((D.rest : Nat) : Int), ((D.many : Nat) : Int), -1, ((D.many : Nat) : Int) + 40]) (fun _ => True) (fun _ _ => trivial) (e := g2) (by show g2 < 6; omega)
  refine ⟨L3, _, _, _, rfl, rfl, SqL.of (k11 _ _ eL3 nL3x), at_ofG (j := g2) rfl hspr, ?_⟩
  have kt := (Kp.same sL3).trans k11
  have ht := b10.tk kt _ _ ht
  have hX := hX.keep (b10.tk kt)
  have hM4 := b10.tk kt _ _ hM4
  have k0 := k10.trans kt
  have hk11 := tkp k0 hk
  have hT11 := hT.keep (hx.tk k0)
  have lb100 : ∀ e ∈ xs, e.2.1.length ≤ 100 := fun e he => by have := lb e he; omega
  -- what is due
  refine ⟨_, rfl, kd, ts, rows, rfl, hk11, hT11, R, fun H12 dz s12 hdz => ?_⟩
  refine ⟨_, rfl, _, rfl, _, rfl, _, rfl, dz, t, tM4, st, spr, us, rows, xs, ms, rfl, hdz, R, s12 _ _ ht, hX.keep (fun _ _ h => s12 _ _ h), lx, lb100, s12 _ _ hM4, by omega, fun H13 q s13 hq => ?_⟩
  have s1113 := s12.trans s13
  refine ⟨_, rfl, kd, ts, rows, rfl, s1113 _ _ hk11, hT11.keep (fun _ _ h => s1113 _ _ h), R, fun H14 s14 => ?_⟩
  have s1114 := s1113.trans s14
  refine ⟨_, rfl, _, rfl, _, rfl, _, rfl, t, tM4, st, spr, us, rows, xs, ms, rfl, R, s1114 _ _ ht, hX.keep (fun _ _ h => s1114 _ _ h), lx, lb100, s1114 _ _ hM4, fun H15 p s15 hp => ?_⟩
  have s1115 := s1114.trans s15
  refine ⟨_, rfl, _, _, rfl, cdL_sam (s1115 _ _ hM4) (by omega) hp (s15 _ _ (s14 _ _ hq)), fun H16 s16 => ?_⟩
  exact key _ (k0.trans (Kp.same (s1115.trans s16))) (b11.same (s1115.trans s16))
end
end Sh
end
section
set_option Elab.async false
set_option linter.all false
set_option maxRecDepth 100000
set_option maxHeartbeats 16000000
namespace Sh
open PySem PySem.Spec PyProof.Rows L2 NdefX LamX
open C8 (pss_cut tCut)
open Evl (ixN_nat)
theorem fnOk0 {P : Program} {w : World} {K : PySem.W.Frag} {mg : Str → Option Value} {base : Heap} {k : Nat} {x : Str} {sp : Sp} {st : Stmt} {N ps : List Str} {f0 : Addr} {fd : FuncData} (F : FunD K x x (defArgs st) (defBody st) (defScope st) [] [] f0 fd) (S : FnScope N ps (defScope st)) (len : ∀ vs H Q E, sp vs H Q E → vs.length = ps.length)
    (hbody : ∀ (cdv : Value) (A : Around) (outer : List Env) (s : Shared) (H : Hp) (vs : List V) (Q : VK) (E : XK), Room k (A.deeper (envOfC x (defScope st) s.heap.objs.size f0 cdv)) → sp vs H Q E →
      ∃ t, PSs (cxOf CX0 P w K mg base N x (defScope st) f0 cdv A outer s H E).nox (defBody st) t ∧ t { nx := fun _ H' => Q .non H', rt := Q } (start N vs) H) : FnOk P w K mg base CX0 (k + 1) f0 fd ps sp :=
  F.ok S len fun cdv A outer s H vs Q E hr h => by
    obtain ⟨t, a, b⟩ := hbody cdv A outer s H vs Q E hr h
    exact ⟨t, a.nox, b⟩
theorem sqk {K : PySem.W.Frag} {H H' : Hp} {s : Addr} {xs : List V} (h : SqL K H s xs) (k : ∀ o, H s = some o → H' s = some o) : SqL K H' s xs := by
  rcases h with (h | ⟨o, h⟩) | h
  · exact .inl (.inl (k _ h))
  · exact .inl (.inr ⟨o, k _ h⟩)
  · exact .inr h
theorem sqs {K : PySem.W.Frag} {H H' : Hp} {s : Addr} {xs : List V} (h : SqL K H s xs) (k : Same H H') : SqL K H' s xs := sqk h fun o e => k _ _ e
theorem Same.kp {H H1 H2 : Hp} {x : Addr} (s : Same H H1) (hx : H x = none) (k : Kp x H1 H2) : Same H H2 := fun p o h => k _ _ (s _ _ h) fun e => by rw [e, hx] at h; cases h
theorem pw_of {rows : List Row} {D : RdD} (R : ROk 4 rows) (hD : D.Ok rows) : ∀ q ∈ rows, ∀ i, i < q.2.toNat → D.many ^ i ≤ 4000 := fun q hq i hi => by
  have h3 := (R.wd q hq).2
  have m40 := hD.m3
  calc D.many ^ i ≤ 40 ^ i := Nat.pow_le_pow_left m40 i
    _ ≤ 40 ^ 2 := Nat.pow_le_pow_right (by decide) (by omega)
    _ ≤ 4000 := by decide
theorem LrA.ne5 {P : Program} {w : World} {H : Hp} {a l : Addr} {D : RdD} {ex : List V} {us : List Addr} (h : LrA P w H a D ex) (hl : H l = some (.lst (us.map V.ref))) : a ≠ l := fun e => by
  obtain ⟨tR, tM, tS, us', h1, _⟩ := h
  rw [e, hl] at h1
  have h1 := Option.some.inj h1
  injection h1 with h1
  cases us with
  | nil => cases h1
  | cons x us => cases h1
theorem sameN_upd {H : Hp} {l : Addr} {xs : List V} {o : HO} (hl : H l = some (.lst xs)) : SameN H (upd H l o) := fun b o' h n => by
  rw [upd_ne fun e => by rw [e, hl] at h; exact n _ (Option.some.inj h).symm]
  exact h
theorem LrA.updl5 {P : Program} {w : World} {H : Hp} {a l : Addr} {D : RdD} {ex : List V} {us : List Addr} {o : HO} (h : LrA P w H a D ex) (hl : H l = some (.lst (us.map V.ref))) : LrA P w (upd H l o) a D ex := by
  have na := h.ne5 hl
  have sn := sameN_upd (o := o) hl
  obtain ⟨tR, tM, tS, us', h1, h2, h3, h4, h5⟩ := h
  exact ⟨tR, tM, tS, us', by rw [upd_ne na]; exact h1, sn _ _ h2 (fun _ e => nomatch e), h3.keep (fun t ys q => sn _ _ q (fun _ e => nomatch e)), sn _ _ h4 (fun _ e => nomatch e), ndAt_sn h5 sn⟩
def spLawK (K : PySem.W.Frag) : Sp := fun vs H Q _ => ∃ (s : Addr) (ns : List Int), vs = [.ref s] ∧ SqL K H s (ns.map V.int) ∧ ns.length ≤ 63 ∧ ∀ H', Q (.bl true) H'
abbrev N_law : List Str := ["script", "box", "long", "tall", "kinds", "sizes", "drawn", "k", "own", "readers", "plant", "other", "rows", "row", "one"]
theorem sc_law : FnScope N_law ["script"] (defScope s_law) := ⟨rfl, rfl, rfl, by decide +kernel, rfl, by decide +kernel, by decide +kernel⟩
section
variable {P : Program} {w : World} {K : PySem.W.Frag} {mg : Str → Option Value} {base : Heap} {C CR : Addr}
theorem ok_law (T : Bl mg) (c_law_box : DefOk P w K mg base CX0 1 "_law_box" (spBox7 K)) (c_law_take : DefOk P w K mg base CX0 1 "_law_take" spTake) (c_law_bed : DefOk P w K mg base CX0 2 "_law_bed" spBed6) (c_law_text : DefOk P w K mg base CX0 1 "_law_text" spText6) (c_law_sizes : DefOk P w K mg base CX0 1 "_law_sizes" spSizes) (c_law_reader : DefOk P w K mg base CX0 3 "_law_reader" (spReader6 P w)) (c_law_long : DefOk P w K mg base CX0 3 "_law_long" (spLong6 P w)) (c_law_made : DefOk P w K mg base CX0 9 "_law_made" (spMade P w C CR)) (c_law_kept : DefOk P w K mg base CX0 5 "_law_kept" (spKept P w C CR)) (c_law_steps_right : DefOk P w K mg base CX0 5 "_law_steps_right" (spSteps P w C CR)) (c_law_plant : DefOk P w K mg base CX0 2 "_law_plant" spPlantK) (c_law_bent_row : DefOk P w K mg base CX0 3 "_law_bent_row" spBentK) (c_law_tall : DefOk P w K mg base CX0 2 "_law_tall" spTallK) (c_law_row_right : DefOk P w K mg base CX0 8 "_law_row_right" (spRowRight P w C CR)) (c_law_step_right : DefOk P w K mg base CX0 5 "_law_step_right" (spStepRight P w C CR)) (c_law_creation_right : DefOk P w K mg base CX0 10 "_law_creation_right" (spCreRight P w)) {f0 : Addr} {fd : FuncData} (F : FunD K "law" "law" (defArgs s_law) (defBody s_law) (defScope s_law) [] [] f0 fd) : FnOk P w K mg base CX0 11 f0 fd ["script"] (spLawK K) := by
  refine fnOk0 F sc_law (fun vs H Q E h => by obtain ⟨s, ns, rfl, _⟩ := h; rfl) fun cdv A outer s0 H vs Q E hr h => ?_
  obtain ⟨s, ns, rfl, hS, hn, key⟩ := h
  refine ⟨_, (pss_cons (ps_set (i := 1) sc_law.nd rfl (Or.inl rfl) (pe_d c_law_box (hr.mono (by decide)) pass0 (pa_cons (pv 0) (pa_cons pe_int pa_nil))))
    (pss_cons (ps_set (i := 2) sc_law.nd rfl (Or.inl rfl) (pe_cmpR op_eq (pe_d c_law_take (hr.mono (by decide)) pass0 (pa_cons (pv 1) (pa_cons pe_int pa_nil))) pe_int (nomark _)))
    (pss_cons (ps_set (i := 3) sc_law.nd rfl (Or.inl rfl) (pe_cmpR op_eq (pe_d c_law_take (hr.mono (by decide)) pass0 (pa_cons (pv 1) (pa_cons pe_int pa_nil))) pe_int (nomark _)))
    (pss_cons (ps_set (i := 4) sc_law.nd rfl (Or.inr rfl) (pe_d c_law_bed (hr.mono (by decide)) pass0 (pa_cons (pe_d c_law_box (hr.mono (by decide)) pass0 (pa_cons (pv 0) (pa_cons pe_int pa_nil))) (pa_cons (pe_ix ix_list (pe_lst (pa_cons pe_int (pa_cons pe_int pa_nil))) (pe_callTy call_int1 (by rfl) T.b_int (by decide +kernel) (pa_cons (pv 2) pa_nil)) (fun _ _ => rfl)) pa_nil))))
    (pss_cons (ps_set (i := 5) sc_law.nd rfl (Or.inl rfl) (pe_d c_law_sizes (hr.mono (by decide)) pass0 (pa_cons (pv 4) pa_nil)))
    (pss_cons (ps_set (i := 6) sc_law.nd rfl (Or.inl rfl) (pe_lst pa_nil))
    (pss_cons (ps_for PassesOwn.never rfl (pi_list (pe_lst (pa_cons pe_int (pa_cons pe_int pa_nil)))) (pg_name (i := 7) sc_law.nd rfl (Or.inl rfl))
      (pss_cons (ps_set (i := 8) sc_law.nd rfl (Or.inl rfl) (pe_d c_law_box (hr.mono (by decide)) pass0 (pa_cons (pv 0) (pa_cons (pv 7) pa_nil))))
      (pss_one (ps_if (pt_val (pv 2))
        (pss_one (ps_expr (pe_bm PySem.F.plainAttrs_list PySem.F.slot_list_append PySem.F.type_list_append mt_append (pv 6) (pa_cons (pe_d c_law_long (hr.mono (by decide)) pass0 (pa_cons (pv 8) (pa_cons (pv 4) (pa_cons (pe_op op_add pe_int (pe_d c_law_take (hr.mono (by decide)) pass0 (pa_cons (pv 8) (pa_cons pe_int pa_nil)))) pa_nil)))) pa_nil))))
        (pss_one (ps_expr (pe_bm PySem.F.plainAttrs_list PySem.F.slot_list_append PySem.F.type_list_append mt_append (pv 6) (pa_cons (pe_d c_law_reader (hr.mono (by decide)) pass0 (pa_cons (pv 8) (pa_cons (pv 4) (pa_cons pe_int pa_nil)))) pa_nil))))))))
    (pss_cons (ps_setLc (i := 9) (own := [("one", 14)]) (g := (gName 14)) (tt := tYes) rfl sc_law.nd rfl rfl (sw_true rfl rfl rfl (by decide +kernel)) (pi_list (pv 6)) (blkOk_by (N := N_law) (sc := defScope s_law) (by decide +kernel)) (fun _ _ _ _ _ => (pg_name (i := 14) sc_law.nd rfl (Or.inl rfl))) (fun _ _ _ _ _ => pts_nil) (fun _ _ _ _ _ => (pe_d c_law_made (hr.mono (by decide)) pass0 (pa_cons (pe_d c_law_text (hr.mono (by decide)) pass0 (pa_cons (pv 4) pa_nil)) (pa_cons (pv 14) pa_nil)))))
    (pss_cons (ps_for PassesOwn.never rfl (pi_range1 (by rfl) T.b_range (pa_cons pe_int pa_nil)) (pg_name (i := 7) sc_law.nd rfl (Or.inl rfl))
      (pss_one (ps_if (PW.pt (pw_or (pt_not (pt_val (pe_d c_law_kept (hr.mono (by decide)) pass0 (pa_cons (pv 4) (pa_cons (pe_ix ix_list (pv 6) (pv 7) (fun _ _ => rfl)) (pa_cons (pe_ix ix_list (pv 9) (pv 7) (fun _ _ => rfl)) pa_nil)))))) (pw_or1 (pt_not (pt_val (pe_d c_law_steps_right (hr.mono (by decide)) pass0 (pa_cons (pv 4) (pa_cons (pe_ix ix_list (pv 6) (pv 7) (fun _ _ => rfl)) (pa_cons (pe_ix ix_list (pv 9) (pv 7) (fun _ _ => rfl)) pa_nil)))))))))
        (pss_one (ps_ret pe_bl))
        pss_nil)))
    (pss_cons (ps_set (i := 8) sc_law.nd rfl (Or.inl rfl) (pe_d c_law_box (hr.mono (by decide)) pass0 (pa_cons (pv 0) (pa_cons pe_int pa_nil))))
    (pss_cons (ps_set (i := 10) sc_law.nd rfl (Or.inl rfl) (pe_d c_law_plant (hr.mono (by decide)) pass0 (pa_cons (pv 8) (pa_cons (pv 4) (pa_cons pe_int pa_nil)))))
    (pss_cons (ps_set (i := 11) sc_law.nd rfl (Or.inl rfl) (pe_d c_law_plant (hr.mono (by decide)) pass0 (pa_cons (pv 8) (pa_cons (pv 4) (pa_cons pe_int pa_nil)))))
    (pss_cons (ps_set (i := 12) sc_law.nd rfl (Or.inl rfl) (pe_lst (pa_cons (pv 10) (pa_cons (pv 11) (pa_cons (pe_d c_law_bent_row (hr.mono (by decide)) pass0 (pa_cons (pv 8) (pa_cons (pv 4) (pa_cons (pv 11) pa_nil)))) (pa_cons (pe_d c_law_plant (hr.mono (by decide)) pass0 (pa_cons (pe_d c_law_box (hr.mono (by decide)) pass0 (pa_cons (pv 0) (pa_cons pe_int pa_nil))) (pa_cons (pv 4) (pa_cons pe_int pa_nil)))) pa_nil))))))
    (pss_cut (ps_if (pt_val (pv 3))
      (pss_one (ps_expr (pe_bm PySem.F.plainAttrs_list PySem.F.slot_list_append PySem.F.type_list_append mt_append (pv 12) (pa_cons (pe_d c_law_tall (hr.mono (by decide)) pass0 (pa_cons (pv 8) (pa_cons (pv 4) pa_nil))) pa_nil))))
      pss_nil)
    (pss_cons (ps_for PassesOwn.never rfl (pi_list (pe_op op_cat (pv 12) (pe_lst (pa_cons (pv 10) pa_nil)))) (pg_name (i := 13) sc_law.nd rfl (Or.inl rfl))
      (pss_one (ps_for PassesOwn.never rfl (pi_range1 (by rfl) T.b_range (pa_cons pe_int pa_nil)) (pg_name (i := 7) sc_law.nd rfl (Or.inl rfl))
        (pss_one (ps_if (pt_not (pt_val (pe_d c_law_row_right (hr.mono (by decide)) pass0 (pa_cons (pv 5) (pa_cons (pe_ix ix_list (pv 6) (pv 7) (fun _ _ => rfl)) (pa_cons (pe_ix ix_list (pv 9) (pv 7) (fun _ _ => rfl)) (pa_cons (pv 13) pa_nil)))))))
          (pss_one (ps_ret pe_bl))
          pss_nil)))))
    (pss_cons (ps_set (i := 8) sc_law.nd rfl (Or.inl rfl) (pe_d c_law_box (hr.mono (by decide)) pass0 (pa_cons (pv 0) (pa_cons pe_int pa_nil))))
    (pss_cons (ps_for PassesOwn.never rfl (pi_range1 (by rfl) T.b_range (pa_cons pe_int pa_nil)) (pg_name (i := 7) sc_law.nd rfl (Or.inl rfl))
      (pss_one (ps_if (pt_not (pt_val (pe_d c_law_step_right (hr.mono (by decide)) pass0 (pa_cons (pv 8) (pa_cons (pv 4) (pa_cons (pe_ix ix_list (pv 6) (pv 7) (fun _ _ => rfl)) (pa_cons (pe_ix ix_list (pv 9) (pv 7) (fun _ _ => rfl)) pa_nil)))))))
        (pss_one (ps_ret pe_bl))
        pss_nil)))
    (pss_one (ps_ret (pe_d c_law_creation_right (hr.mono (by decide)) pass0 (pa_cons (pv 8) (pa_cons (pv 4) (pa_cons (pe_ix ix_list (pv 6) pe_int (fun _ _ => rfl)) pa_nil))))))))))))))))))))))), ?_⟩
  refine ⟨_, rfl, s, ns, 0, rfl, hS, (fun H' q => sqs hS q), hn, by decide, fun H1 x0 s1 nx0 b0 => ?_⟩
  refine ⟨_, rfl, x0, 6, rfl, b0, by decide, by decide, fun H2 e k2 b2 he => ?_⟩
  obtain ⟨fl, hfl⟩ : ∃ fl : Bool, decide (V.int ((e : Nat) : Int) = V.int 2) = fl := ⟨_, rfl⟩
  refine ⟨rfl, ?_⟩
  rw [hfl]
  refine ⟨_, rfl, x0, 4, rfl, b2, by decide, by decide, fun H4 nn k4 b4 hnn => ?_⟩
  obtain ⟨tl, htl⟩ : ∃ tl : Bool, decide (V.int ((nn : Nat) : Int) = V.int 2) = tl := ⟨_, rfl⟩
  refine ⟨rfl, ?_⟩
  rw [htl]
  have s4 := Same.kp s1 nx0 (k2.trans k4)
  -- the kinds
  refine ⟨_, rfl, s, ns, 1, rfl, sqs hS s4, (fun H' q => sqs (sqs hS s4) q), hn, by decide, fun H5 x1 s5 nx1 b5 => ?_⟩
  have nx10 := s4.free nx1
  refine ⟨le_line (show 2 ≤ 10000000 by decide), fun l1 hl1 => ?_⟩
  have s56 := (Same.refl H5).upd_new (o := .lst [.int 3, .int 1]) hl1
  have e6 : (upd H5 l1 (.lst [.int 3, .int 1])) l1 = some (.lst [.int 3, .int 1]) := upd_same
  have b6 := b5.same s56
  generalize upd H5 l1 (.lst [.int 3, .int 1]) = H6 at s56 e6 b6
  have s06 := (s4.trans s5).trans s56
  obtain ⟨lim, hlim, h3l, hll⟩ : ∃ lim : Int, ([V.int 3, V.int 1] : List V)[if fl = true then 1 else 0]? = some (.int lim) ∧ (lim = 3 ∨ lim = 1) ∧ (fl = true → lim = 1) := by
    cases fl
    · exact ⟨3, rfl, .inl rfl, fun h => nomatch h⟩
    · exact ⟨1, rfl, .inr rfl, fun _ => rfl⟩
  refine ⟨_, rfl, .inr ⟨_, rfl, l1, _, _, _, rfl, rfl, SqL.of e6, at_ofG (j := if fl = true then 1 else 0) (by cases fl <;> rfl) hlim, ?_⟩⟩
  refine ⟨x1, lim, rfl, b6, h3l, fun H7 r ts rows k7 b7 hr7 hT7 R wle => ?_⟩
  have s07 := Same.kp s06 nx10 k7
  have lts : (ts.map V.ref).length = rows.length := by rw [List.length_map, hT7.1]
  refine ⟨_, rfl, r, ts, rows, rfl, hr7, hT7, R, fun H8 dz s8 hdz => ?_⟩
  have s08 := s07.trans s8
  have hr8 := s8 _ _ hr7
  have hT8 := hT7.keep fun _ _ h => s8 _ _ h
  refine ⟨le_line (show 0 ≤ 10000000 by decide), fun DL hDL => ?_⟩
  have s9 := (Same.refl H8).upd_new (o := .lst []) hDL
  have e9 : (upd H8 DL (.lst [])) DL = some (.lst (([] : List Addr).map V.ref)) := upd_same
  generalize upd H8 DL (.lst []) = H9 at s9 e9
  refine ⟨le_line (show 2 ≤ 10000000 by decide), fun lk hlk => ?_⟩
  have nlD : lk ≠ DL := fun e => by rw [e, e9] at hlk; cases hlk
  have s10 := s9.upd_new (o := .lst [.int 2, .int 3]) hlk
  have e10 : (upd H9 lk (.lst [.int 2, .int 3])) DL = some (.lst (([] : List Addr).map V.ref)) := by rw [upd_ne (Ne.symm nlD)]; exact e9
  have f10 : (upd H9 lk (.lst [.int 2, .int 3])) lk = some (.lst [.int 2, .int 3]) := upd_same
  generalize upd H9 lk (.lst [.int 2, .int 3]) = H10 at s10 e10 f10
  refine ⟨lk, rfl, ⟨_, SqL.of f10⟩, for_list (xs := [.int 2, .int 3]) (fun i σ H' => ∃ (x7 x8 : Option V) (as : List Addr) (Ds : List RdD), σ = [some (.ref s), some (.ref x0), some (.bl fl), some (.bl tl), some (.ref r), some (.ref dz), some (.ref DL), x7, x8, none, none, none, none, none, none] ∧ Same H8 H' ∧ H' lk = some (.lst [.int 2, .int 3]) ∧ H' DL = some (.lst (as.map V.ref)) ∧ as.length = i ∧ Ds.length = i ∧ ∀ (j : Nat) (a : Addr) (D : RdD), as[j]? = some a → Ds[j]? = some D → LrA P w H' a D [] ∧ D.Ok rows)
    ⟨none, none, [], [], rfl, s10, f10, e10, rfl, rfl, fun j a D h => by simp at h⟩ (fun i σ H' _ ⟨_, _, _, _, _, _, q, _⟩ => SqL.of q) ?_ ?_⟩
  · rintro i v σ H11 hv ⟨x7, x8, as, Ds, rfl, s11, f11, e11, la, lD, hL⟩
    obtain ⟨kk, rfl, hkk⟩ : ∃ kk : Nat, v = .int ((kk : Nat) : Int) ∧ kk < 10 := by
      match i, hv with
      | 0, hv => cases hv; exact ⟨2, rfl, by decide⟩
      | 1, hv => cases hv; exact ⟨3, rfl, by decide⟩
    have i2 : i < 2 := (List.getElem?_eq_some_iff.mp hv).1
    have sS := sqs hS (s08.trans s11)
    refine ⟨_, rfl, _, rfl, s, ns, kk, rfl, sS, (fun H' q => sqs sS q), hn, hkk, fun H12 x2 s12 nx2 b12 => ?_⟩
    have app : ∀ {H13 : Hp} {a : Addr} {D : RdD}, Same H11 H13 → LrA P w H13 a D [] → D.Ok rows → ∃ (l : Addr) (xs : List V) (v : V), V.ref DL = .ref l ∧ [V.ref a] = [v] ∧ H13 l = some (.lst xs) ∧ xs.length < sizeLine ∧ (∃ (x7' x8' : Option V) (as : List Addr) (Ds : List RdD), [some (V.ref s), some (.ref x0), some (.bl fl), some (.bl tl), some (.ref r), some (.ref dz), some (.ref DL), some (.int ((kk : Nat) : Int)), some (.ref x2), none, none, none, none, none, none] = [some (.ref s), some (.ref x0), some (.bl fl), some (.bl tl), some (.ref r), some (.ref dz), some (.ref DL), x7', x8', none, none, none, none, none, none] ∧ Same H8 (upd H13 l (.lst (xs ++ [v]))) ∧ (upd H13 l (.lst (xs ++ [v]))) lk = some (.lst [.int 2, .int 3]) ∧ (upd H13 l (.lst (xs ++ [v]))) DL = some (.lst (as.map V.ref)) ∧ as.length = i + 1 ∧ Ds.length = i + 1 ∧ ∀ (j : Nat) (a : Addr) (D : RdD), as[j]? = some a → Ds[j]? = some D → LrA P w (upd H13 l (.lst (xs ++ [v]))) a D [] ∧ D.Ok rows) := fun {H13 a D} s13 hA hD => by
      have e13 := s13 _ _ e11
      refine ⟨DL, _, _, rfl, rfl, e13, by rw [List.length_map, la]; exact lt_line (by omega), _, _, as ++ [a], Ds ++ [D], rfl, (s11.trans s13).upd_own hDL, by rw [upd_ne nlD]; exact s13 _ _ f11, by rw [upd_same, List.map_append]; rfl, by rw [List.length_append, la]; rfl, by rw [List.length_append, lD]; rfl, fun j a' D' h1 h2 => ?_⟩
      by_cases c : j < i
      · rw [List.getElem?_append_left (by omega)] at h1 h2
        obtain ⟨g1, g2⟩ := hL j a' D' h1 h2
        exact ⟨(g1.sm s13).updl5 e13, g2⟩
      · have hj := (List.getElem?_eq_some_iff.mp h1).1
        rw [List.length_append, la] at hj
        have l1 : ([a] : List Addr).length = 1 := rfl
        have ej : j = i := by omega
        rw [ej, List.getElem?_append_right (by omega), la, Nat.sub_self] at h1
        rw [ej, List.getElem?_append_right (by omega), lD, Nat.sub_self] at h2
        cases h1
        cases h2
        exact ⟨hA.updl5 e13, hD⟩
    have hr12 := s12 _ _ (s11 _ _ hr8)
    have hT12 := hT8.keep fun _ _ h => s12 _ _ (s11 _ _ h)
    refine ⟨_, rfl, _, rfl, ite2 (fun c => ?_) (fun c => ?_)⟩
    · have hfl : fl = true := c
      refine ⟨_, rfl, .inl ⟨rfl, _, SqL.of (s12 _ _ e11)⟩, _, rfl, _, rfl, _, rfl, x2, 21, rfl, b12, by decide, by decide, fun H13 e2 k13 b13 he2 => ⟨_, _, rfl, rfl, ?_⟩⟩
      have s13 := Same.kp s12 nx2 k13
      refine ⟨x2, r, ts, rows, 20 + e2, by show [_, _, V.int (20 + ((e2 : Nat) : Int))] = _; rw [show (20 : Int) + ((e2 : Nat) : Int) = ((20 + e2 : Nat) : Int) by omega], b13, s13 _ _ (s11 _ _ hr8), hT8.keep (fun _ _ h => s13 _ _ (s11 _ _ h)), R, fun q hq => by have := wle q hq; rw [hll hfl] at this; exact this, by omega, by omega, fun H14 a D k14 b14 hD hDm na nax hA => ?_⟩
      exact app (Same.kp s13 nx2 k14) hA hD
    · refine ⟨_, rfl, .inl ⟨rfl, _, SqL.of (s12 _ _ e11)⟩, _, rfl, _, rfl, x2, r, ts, rows, 3, rfl, b12, hr12, hT12, R, by decide, by decide, fun H14 a D k14 b14 hD hDm na nax hA => ?_⟩
      exact app (Same.kp s12 nx2 k14) hA hD
  rintro σ H11 ⟨x7, x8, as, Ds, rfl, s11, f11, e11, la, lD, hL⟩
  have la : as.length = 2 := la
  have lD : Ds.length = 2 := lD
  obtain ⟨a1, a2, rfl⟩ : ∃ u1 u2, as = [u1, u2] := by
    match as, la with
    | [u1, u2], _ => exact ⟨u1, u2, rfl⟩
  obtain ⟨D1, D2, rfl⟩ : ∃ u1 u2, Ds = [u1, u2] := by
    match Ds, lD with
    | [u1, u2], _ => exact ⟨u1, u2, rfl⟩
  obtain ⟨hA1, hD1⟩ := hL 0 a1 D1 rfl rfl
  obtain ⟨hA2, hD2⟩ := hL 1 a2 D2 rfl rfl
  have hr11 := s11 _ _ hr8
  have hT11 := hT8.keep fun _ _ h => s11 _ _ h
  have hdz11 := s11 _ _ hdz
  have s011 := s08.trans s11
  -- the readers
  refine ⟨_, rfl, DL, rfl, ⟨_, SqL.of e11⟩, fun RL hRL => lc_it (walk_list (xs := ([a1, a2] : List Addr).map V.ref)) (fun i H' => Same H11 H' ∧ ∃ us : List Addr, H' RL = some (.lst (us.map V.ref)) ∧ us.length = i ∧ ∀ (j : Nat) (u : Addr) (D : RdD), us[j]? = some u → ([D1, D2] : List RdD)[j]? = some D → ∃ b, RdAt C CR H' u b rows D) ⟨(Same.refl H11).upd_new hRL, [], upd_same, rfl, fun j u D h => by simp at h⟩ (fun i H' _ ⟨q, _⟩ => SqL.of (q _ _ e11)) ?_ ?_⟩
  · rintro i v H12 H12' hi ⟨s12, us, R12, lu, rds⟩ ⟨rfl, hv⟩
    obtain ⟨a, ha, rfl⟩ := get_map_r hv
    have hi2 : i < 2 := (List.getElem?_eq_some_iff.mp ha).1
    obtain ⟨D, hDi, hA, hD⟩ : ∃ (D : RdD), ([D1, D2] : List RdD)[i]? = some D ∧ LrA P w H11 a D [] ∧ D.Ok rows := by
      match i, hi2, ha with
      | 0, _, ha => cases ha; exact ⟨_, rfl, hA1, hD1⟩
      | 1, _, ha => cases ha; exact ⟨_, rfl, hA2, hD2⟩
    refine ⟨rfl, _, rfl, r, ts, rows, rfl, s12 _ _ hr11, hT11.keep (fun _ _ h => s12 _ _ h), R, fun H13 s13 => ?_⟩
    have s1113 := s12.trans s13
    refine ⟨_, rfl, a, rows, D, [], rfl, R, hD, hA.sm s1113, fun H14 u b s14 hRd => ?_⟩
    have s1214 := s13.trans s14
    have R14 := s1214 _ _ R12
    refine ⟨_, R14, by rw [List.length_map, lu]; exact lt_line (by omega), (s12.trans s1214).upd_own hRL, us ++ [u], by rw [upd_same, List.map_append]; rfl, by rw [List.length_append, lu]; rfl, fun j u' D' h1 h2 => ?_⟩
    have sn := sameN_upd (o := .lst (us.map V.ref ++ [.ref u])) R14
    by_cases c : j < i
    · rw [List.getElem?_append_left (by omega)] at h1
      obtain ⟨b', h⟩ := rds j u' D' h1 h2
      exact ⟨b', (h.same s1214).sn sn⟩
    · have hj := (List.getElem?_eq_some_iff.mp h1).1
      rw [List.length_append, lu] at hj
      have l1 : ([u] : List Addr).length = 1 := rfl
      have ej : j = i := by omega
      rw [ej, List.getElem?_append_right (by omega), lu, Nat.sub_self] at h1
      rw [ej, hDi] at h2
      cases h1
      cases h2
      exact ⟨b, hRd.sn sn⟩
  rintro H12 ⟨s12, us, R12, lu, rds⟩
  have lu : us.length = 2 := lu
  obtain ⟨u1, u2, rfl⟩ : ∃ u1 u2, us = [u1, u2] := by
    match us, lu with
    | [u1, u2], _ => exact ⟨u1, u2, rfl⟩
  obtain ⟨b1, hR1⟩ := rds 0 u1 D1 rfl rfl
  obtain ⟨b2', hR2⟩ := rds 1 u2 D2 rfl rfl
  have R12 : H12 RL = some (.lst [.ref u1, .ref u2]) := R12
  have e12 : H12 DL = some (.lst [.ref a1, .ref a2]) := s12 _ _ e11
  have A1 := hA1.sm s12
  have A2 := hA2.sm s12
  have hr12 := s12 _ _ hr11
  have hT12 := hT11.keep fun _ _ h => s12 _ _ h
  have hdz12 := s12 _ _ hdz11
  have hS12 := sqs hS (s011.trans s12)
  have pick : ∀ i, i < 2 → ∃ (a u b : Addr) (D : RdD), ([V.ref a1, V.ref a2] : List V)[i]? = some (.ref a) ∧ ([V.ref u1, V.ref u2] : List V)[i]? = some (.ref u) ∧ LrA P w H12 a D [] ∧ D.Ok rows ∧ RdAt C CR H12 u b rows D := fun i hi => by
    match i, hi with
    | 0, _ => exact ⟨_, _, _, _, rfl, rfl, A1, hD1, hR1⟩
    | 1, _ => exact ⟨_, _, _, _, rfl, rfl, A2, hD2, hR2⟩
  clear rds hL hR1 hR2 hA2 hA1 lu lD la
  -- kept, steps
  refine ⟨_, rfl, by omega, by omega, for_range (n := 2) (fun i σ H' => ∃ x7 : Option V, σ = [some (.ref s), some (.ref x0), some (.bl fl), some (.bl tl), some (.ref r), some (.ref dz), some (.ref DL), x7, x8, some (.ref RL), none, none, none, none, none] ∧ Same H12 H') ⟨x7, rfl, Same.refl H12⟩ ?_ ?_⟩
  · rintro i σ H13 hi ⟨y7, rfl, s13⟩
    have ei : (0 : Int) + ((i : Nat) : Int) = ((i : Nat) : Int) := by omega
    obtain ⟨a, u, b, D, ha, hu, hA, hD, hR⟩ := pick i hi
    refine ⟨_, rfl, _, rfl, _, rfl, DL, _, _, _, rfl, rfl, SqL.of (s13 _ _ e12), at_ofG (j := i) ei ha, _, rfl, _, rfl, RL, _, _, _, rfl, rfl, SqL.of (s13 _ _ R12), at_ofG (j := i) ei hu, r, a, u, b, ts, rows, D, [], rfl, s13 _ _ hr12, hT12.keep (fun _ _ h => s13 _ _ h), R, hD, hA.sm s13, hR.same s13, pw_of R hD, fun H14 s14 => ?_⟩
    refine ⟨_, rfl, ifn (by decide) ?_⟩
    have s124 := s13.trans s14
    refine ⟨_, rfl, _, rfl, _, rfl, DL, _, _, _, rfl, rfl, SqL.of (s124 _ _ e12), at_ofG (j := i) ei ha, _, rfl, _, rfl, RL, _, _, _, rfl, rfl, SqL.of (s124 _ _ R12), at_ofG (j := i) ei hu, r, a, u, b, ts, rows, D, [], rfl, s124 _ _ hr12, hT12.keep (fun _ _ h => s124 _ _ h), R, hD, hA.sm s124, hR.same s124, pw_of R hD, fun H15 s15 => ?_⟩
    exact ⟨_, rfl, ifn (by decide) ⟨_, rfl, s124.trans s15⟩⟩
  rintro σ H13 ⟨y7, rfl, s13⟩
  -- the plants
  have hr13 := s13 _ _ hr12
  have hT13 := hT12.keep fun _ _ h => s13 _ _ h
  have hS13 := sqs hS12 s13
  refine ⟨_, rfl, s, ns, 5, rfl, hS13, (fun H' q => sqs hS13 q), hn, by decide, fun H14 x5 s14 nx5 b14 => ?_⟩
  refine ⟨_, rfl, _, rfl, x5, r, 9, ts, rows, rfl, b14, s14 _ _ hr13, hT13.keep (fun _ _ h => s14 _ _ h), R, by decide, by decide, fun H15 tp lp k15 b15 hp lp9 lp0 => ?_⟩
  have s15 := Same.kp s14 nx5 k15
  refine ⟨_, rfl, _, rfl, x5, r, 9, ts, rows, rfl, b15, s15 _ _ hr13, hT13.keep (fun _ _ h => s15 _ _ h), R, by decide, by decide, fun H16 to lo k16 b16 ho lo9 lo0 => ?_⟩
  have s16 := Same.kp s15 nx5 k16
  have hp := b15.tk k16 _ _ hp
  refine ⟨_, rfl, _, rfl, _, rfl, _, rfl, _, rfl, x5, r, to, ts, rows, lo, rfl, b16, s16 _ _ hr13, hT13.keep (fun _ _ h => s16 _ _ h), R, ho, lo0, by omega, fun H17 tb lb k17 b17 hb lb5 => ?_⟩
  have s17 := Same.kp s16 nx5 k17
  have hp := b16.tk k17 _ _ hp
  have ho := b16.tk k17 _ _ ho
  have hS17 := sqs hS13 s17
  refine ⟨_, rfl, s, ns, 4, rfl, hS17, (fun H' q => sqs hS17 q), hn, by decide, fun H18 x4 s18 nx4 b18 => ?_⟩
  have s1318 := s17.trans s18
  refine ⟨_, rfl, x4, r, 30, ts, rows, rfl, b18, s1318 _ _ hr13, hT13.keep (fun _ _ h => s1318 _ _ h), R, by decide, by decide, fun H19 tq lq k19 b19 hq lq30 lq0 => ?_⟩
  have s1719 := Same.kp s18 nx4 k19
  have s19 := s17.trans s1719
  have hp := s1719 _ _ hp
  have ho := s1719 _ _ ho
  have hb := s1719 _ _ hb
  have b19' := b17.same s1719
  refine ⟨le_line (show 4 ≤ 10000000 by decide), fun LR hLR => ?_⟩
  have s20 := s19.upd_new (o := .lst [.ref tp, .ref to, .ref tb, .ref tq]) hLR
  have hLR0 : H13 LR = none := s19.free hLR
  have s1920 := (Same.refl H19).upd_new (o := .lst [.ref tp, .ref to, .ref tb, .ref tq]) hLR
  have e20 : (upd H19 LR (.lst [.ref tp, .ref to, .ref tb, .ref tq])) LR = some (.lst [.ref tp, .ref to, .ref tb, .ref tq]) := upd_same
  generalize upd H19 LR (.lst [.ref tp, .ref to, .ref tb, .ref tq]) = H20 at s20 s1920 e20
  have b20 := b19'.same s1920
  have nLx : LR ≠ x5 := fun e => by rw [e] at hLR; obtain ⟨p, q, r', h⟩ := b19'; rw [h] at hLR; cases hLR
  have rws20 : ∀ (i : Nat) (v : V), ([.ref tp, .ref to, .ref tb, .ref tq] : List V)[i]? = some v → ∃ (u : Addr) (l : List Str), v = .ref u ∧ H20 u = some (.tup (sV l)) ∧ l.length ≤ 5000 := fun i v h => by
    match i, h with
    | 0, h => cases h; exact ⟨tp, lp, rfl, s1920 _ _ hp, by omega⟩
    | 1, h => cases h; exact ⟨to, lo, rfl, s1920 _ _ ho, by omega⟩
    | 2, h => cases h; exact ⟨tb, lb, rfl, s1920 _ _ hb, lb5⟩
    | 3, h => cases h; exact ⟨tq, lq, rfl, s1920 _ _ hq, by omega⟩
  -- the tall one
  refine ⟨fun σ H' => ∃ vs : List V, σ = [some (.ref s), some (.ref x0), some (.bl fl), some (.bl tl), some (.ref r), some (.ref dz), some (.ref DL), y7, some (.ref x5), some (.ref RL), some (.ref tp), some (.ref to), some (.ref LR), none, none] ∧ Same H13 H' ∧ H' LR = some (.lst vs) ∧ vs.length ≤ 5 ∧ H' tp = some (.tup (sV lp)) ∧ ∀ (i : Nat) (v : V), vs[i]? = some v → ∃ (u : Addr) (l : List Str), v = .ref u ∧ H' u = some (.tup (sV l)) ∧ l.length ≤ 5000, ?_, ?_⟩
  · refine ⟨_, rfl, _, rfl, ite2 (fun c => ?_) (fun c => ⟨_, rfl, s20, e20, by show 4 ≤ 5; decide, s1920 _ _ hp, rws20⟩)⟩
    refine ⟨_, rfl, .inl ⟨rfl, _, SqL.of e20⟩, _, rfl, _, rfl, x5, r, ts, rows, rfl, b20, s20 _ _ hr13, hT13.keep (fun _ _ h => s20 _ _ h), R, fun H21 tt lt k21 b21 ht lt5 => ?_⟩
    have e21 := k21 _ _ e20 nLx
    have s21 : Same H13 H21 := Same.kp (x := x5) s20 nx5 k21
    have sn := sameN_upd (o := .lst ([.ref tp, .ref to, .ref tb, .ref tq] ++ [.ref tt])) e21
    refine ⟨LR, _, _, rfl, rfl, e21, lt_line (by show 4 ≤ 10000000; decide), _, rfl, s21.upd_own hLR0, upd_same, by show 5 ≤ 5; decide, sn _ _ (b20.tk k21 _ _ (s1920 _ _ hp)) (fun _ e => nomatch e), fun i v h => ?_⟩
    by_cases c4 : i < 4
    · rw [List.getElem?_append_left c4] at h
      obtain ⟨u, l, e1, e2, e3⟩ := rws20 i v h
      exact ⟨u, l, e1, sn _ _ (b20.tk k21 _ _ e2) (fun _ e => nomatch e), e3⟩
    · rw [List.getElem?_append_right (by show 4 ≤ i; omega)] at h
      have hi4 := (List.getElem?_eq_some_iff.mp h).1
      have i4 : i - ([.ref tp, .ref to, .ref tb, .ref tq] : List V).length = 0 := by
        have : ([.ref tt] : List V).length = 1 := rfl
        omega
      rw [i4] at h
      cases h
      exact ⟨tt, lt, rfl, sn _ _ ht (fun _ e => nomatch e), lt5⟩
  rintro σ H21 ⟨vs, rfl, s21, e21, lv, hp21, hvs⟩
  -- all rows
  refine ⟨_, rfl, _, rfl, le_line (show 1 ≤ 10000000 by decide), fun L1 hL1 => ?_⟩
  have s22 := (Same.refl H21).upd_new (o := .lst [.ref tp]) hL1
  have e22 : (upd H21 L1 (.lst [.ref tp])) L1 = some (.lst [.ref tp]) := upd_same
  generalize upd H21 L1 (.lst [.ref tp]) = H22 at s22 e22
  refine ⟨LR, L1, _, _, rfl, rfl, s22 _ _ e21, e22, le_line (by show vs.length + 1 ≤ 10000000; omega), fun LA hLA => ?_⟩
  have s23 := s22.upd_new (o := .lst (vs ++ [.ref tp])) hLA
  have e23 : (upd H22 LA (.lst (vs ++ [.ref tp]))) LA = some (.lst (vs ++ [.ref tp])) := upd_same
  generalize upd H22 LA (.lst (vs ++ [.ref tp])) = H23 at s23 e23
  have hws : ∀ (i : Nat) (v : V), (vs ++ [.ref tp])[i]? = some v → ∃ (u : Addr) (l : List Str), v = .ref u ∧ H23 u = some (.tup (sV l)) ∧ l.length ≤ 5000 := fun i v h => by
    by_cases c : i < vs.length
    · rw [List.getElem?_append_left c] at h
      obtain ⟨u, l, h1, h2, h3⟩ := hvs i v h
      exact ⟨u, l, h1, s23 _ _ h2, h3⟩
    · rw [List.getElem?_append_right (by omega)] at h
      have hi := (List.getElem?_eq_some_iff.mp h).1
      have i0 : i - vs.length = 0 := by
        have : ([.ref tp] : List V).length = 1 := rfl
        omega
      rw [i0] at h
      cases h
      exact ⟨tp, lp, rfl, s23 _ _ hp21, by omega⟩
  have s1223 := (s13.trans s21).trans s23
  refine ⟨LA, rfl, ⟨_, SqL.of e23⟩, for_list (xs := vs ++ [.ref tp]) (fun i σ H' => ∃ x7 x13 : Option V, σ = [some (.ref s), some (.ref x0), some (.bl fl), some (.bl tl), some (.ref r), some (.ref dz), some (.ref DL), x7, some (.ref x5), some (.ref RL), some (.ref tp), some (.ref to), some (.ref LR), x13, none] ∧ Same H23 H') ⟨y7, none, rfl, Same.refl H23⟩ (fun i σ H' _ ⟨_, _, _, q⟩ => SqL.of (q _ _ e23)) ?_ ?_⟩
  · rintro i v σ H24 hv ⟨z7, z13, rfl, s24⟩
    obtain ⟨u, l, rfl, hu, l5⟩ := hws i v hv
    have hu24 := s24 _ _ hu
    refine ⟨_, rfl, by omega, by omega, for_range (n := 2) (fun j σ H' => ∃ x7 : Option V, σ = [some (.ref s), some (.ref x0), some (.bl fl), some (.bl tl), some (.ref r), some (.ref dz), some (.ref DL), x7, some (.ref x5), some (.ref RL), some (.ref tp), some (.ref to), some (.ref LR), some (.ref u), none] ∧ Same H24 H') ⟨z7, rfl, Same.refl H24⟩ ?_ ?_⟩
    · rintro j σ H25 hj ⟨w7, rfl, s25⟩
      have ej : (0 : Int) + ((j : Nat) : Int) = ((j : Nat) : Int) := by omega
      obtain ⟨a, rd, b, D, ha, hrd, hA, hD, hR⟩ := pick j hj
      have s1225 := (s1223.trans s24).trans s25
      refine ⟨_, rfl, _, rfl, _, rfl, DL, _, _, _, rfl, rfl, SqL.of (s1225 _ _ e12), at_ofG (j := j) ej ha, _, rfl, _, rfl, RL, _, _, _, rfl, rfl, SqL.of (s1225 _ _ R12), at_ofG (j := j) ej hrd, _, rfl, dz, a, rd, b, u, l, rows, D, [], rfl, s1225 _ _ hdz12, hA.sm s1225, hR.same s1225, R, hD, s25 _ _ hu24, by omega, fun H26 s26 => ?_⟩
      exact ⟨_, rfl, ifn (by decide) ⟨_, rfl, s25.trans s26⟩⟩
    · rintro σ H25 ⟨w7, rfl, s25⟩
      exact ⟨_, _, rfl, s24.trans s25⟩
  rintro σ H24 ⟨z7, z13, rfl, s24⟩
  have s1224 := s1223.trans s24
  have hS24 := sqs hS12 s1224
  refine ⟨_, rfl, s, ns, 6, rfl, hS24, (fun H' q => sqs hS24 q), hn, by decide, fun H25 x6 s25 nx6 b25 => ?_⟩
  refine ⟨_, rfl, by omega, by omega, for_range (n := 2) (fun j σ H' => ∃ x7 : Option V, σ = [some (.ref s), some (.ref x0), some (.bl fl), some (.bl tl), some (.ref r), some (.ref dz), some (.ref DL), x7, some (.ref x6), some (.ref RL), some (.ref tp), some (.ref to), some (.ref LR), z13, none] ∧ Same H24 H' ∧ BxT H' x6) ⟨z7, rfl, s25, b25⟩ ?_ ?_⟩
  · rintro j σ H26 hj ⟨w7, rfl, s26, b26⟩
    have ej : (0 : Int) + ((j : Nat) : Int) = ((j : Nat) : Int) := by omega
    obtain ⟨a, rd, b, D, ha, hrd, hA, hD, hR⟩ := pick j hj
    have s1226 := s1224.trans s26
    refine ⟨_, rfl, _, rfl, _, rfl, _, rfl, DL, _, _, _, rfl, rfl, SqL.of (s1226 _ _ e12), at_ofG (j := j) ej ha, _, rfl, _, rfl, RL, _, _, _, rfl, rfl, SqL.of (s1226 _ _ R12), at_ofG (j := j) ej hrd, x6, r, a, rd, b, ts, rows, D, [], rfl, b26, s1226 _ _ hr12, hT12.keep (fun _ _ h => s1226 _ _ h), R, hD, hA.sm s1226, hR.same s1226, fun H27 k27 b27 => ?_⟩
    exact ⟨_, rfl, ifn (by decide) ⟨_, rfl, Same.kp s26 nx6 k27, b27⟩⟩
  · rintro σ H26 ⟨w7, rfl, s26, b26⟩
    have s1226 := s1224.trans s26
    exact ⟨_, rfl, _, rfl, _, rfl, DL, _, _, _, rfl, rfl, SqL.of (s1226 _ _ e12), at_ofG (j := 0) rfl rfl, x6, r, a1, ts, rows, D1, [], rfl, b26, s1226 _ _ hr12, hT12.keep (fun _ _ h => s1226 _ _ h), R, hD1, A1.sm s1226, fun H27 _ _ => key H27⟩
end
end Sh
end
section
set_option Elab.async false
set_option linter.all false
set_option maxRecDepth 100000
set_option maxHeartbeats 8000000
namespace Sh
open PySem PySem.Spec PyProof.Rows L2
open C8 (pss_cut tCut)
open Evl (ixN_nat)
section
variable {P : Program} {w : World} {K : PySem.W.Frag} {mg : Str → Option Value} {base : Heap} {C CR f : Addr} {fd : FuncData}
theorem ok_rdC5 (T : Bl mg) (B : BedT K C) (BR : RdT K CR) (c_check_states : DefOk P w K mg base CX0 1 "check_states" spStates52) (c_are_states : DefOk P w K mg base CX0 1 "are_states" spAre52) (c_check_marks : DefOk P w K mg base CX0 1 "check_marks" spMarks52) (c_rows_by_kind : DefOk P w K mg base CX0 2 "rows_by_kind" (spByKind52 C)) (hm : mg "Reader" = some (.ref CR)) (F : FunD K "__init__" "Reader.__init__" (defArgs s_Reader_init__) (defBody s_Reader_init__) (defScope s_Reader_init__) [] [("otherwise", .int 0)] f fd) (M : Mk K CR f) : RdC P w K mg base C CR 4 := by
  have G : FnOk P w K mg base CX0 4 f fd ["self", "bed", "states", "rows", "marks", "otherwise"] (spRdI C CR) := F.ok sc_Reader_init__ (fun vs H Q E h => by obtain ⟨x, dx, b, tR, tM, us, rows, D, rfl, _⟩ := h; rfl) fun cdv A outer s H vs Q E hr h => body_rdI T B BR c_check_states c_are_states c_check_marks c_rows_by_kind hr h
  obtain ⟨ds, rv, Bd⟩ := F.binds0 (ps := ["self", "bed", "states", "rows", "marks", "otherwise"]) 5 (by simp) rfl (fun D doc pm an cdv ct us ks h1 h2 => match us, ks, h1, h2 with
    | [_, _, _, _, _], [_], _, _ => ⟨_, _, _, _, _, _, rfl, rfl, rfl⟩)
  refine ⟨hm, f, fd, ds, M, G, Bd, rv, ⟨fun s us ws _ l1 l2 => ?_, fun r1 r2 => r1.append r2⟩⟩
  obtain ⟨oc, od, dV, kV, doc, pm, an, cdv, ct, osl, rfl, lk, hcd, hD, hK⟩ := F.ex
  rcases hD with ⟨_, rfl⟩ | ⟨e, _⟩
  · match us, ws, l1, l2 with
    | [_, _, _, _, _], [_], _, _ => exact .of_eq rfl
  · exact absurd rfl e
end
end Sh
end
section
set_option Elab.async false
set_option linter.all false
set_option maxRecDepth 100000
set_option maxHeartbeats 2000000
set_option autoImplicit false
namespace Sh
open PySem PySem.Spec PyProof.Rows L2
theorem app_len (x y : Str) : (x ++ y).length = x.length + y.length := by
  show (x ++ y).cps.size = x.cps.size + y.cps.size
  rw [← Array.length_toList]
  show (TL.tl (x ++ y)).length = _
  rw [TL.tl_append, List.length_append]
  show x.cps.toList.length + y.cps.toList.length = _
  rw [Array.length_toList, Array.length_toList]
theorem acc_le {x y : Str} {n m : Nat} (hx : x.length ≤ n) (hy : y.length ≤ m) (h : n + m ≤ 10000000) : (x ++ y).length ≤ sizeLine := by rw [app_len]; exact le_line (by omega)
theorem acc_n {x y : Str} {n m : Nat} (hx : x.length ≤ n) (hy : y.length ≤ m) : (x ++ y).length ≤ n + m := by rw [app_len]; omega
theorem len_i {i : Nat} (h : i ≤ 10000) : (Str.ofString (toString ((i : Nat) : Int))).length ≤ 6 := by
  have e := int_text_length_le10 (a := ((i : Nat) : Int)) (k := 5) (by decide) (by omega)
  rw [PySem.ofString_length]
  exact e
theorem log_i {i : Nat} (h : i ≤ 10000) : (((i : Nat) : Int)).natAbs.log2 < 1920 := by
  rw [Int.natAbs_natCast]
  have : i.log2 ≤ i := Nat.log2_le_self i
  by_cases h0 : i = 0
  · subst h0; decide
  · have h14 : i.log2 < 14 := (Nat.log2_lt h0).mpr (by omega)
    omega
def q0 : Pos := ⟨0, 0, 0, 0⟩
def stpOf : Stmt → SupX.StP
  | .Assign [.Attribute (.Name _ q1) f q2] (.Name _ q3) q4 => ⟨f, q1, q2, q3, q4⟩
  | _ => ⟨"", q0, q0, q0, q0⟩
def headOf : List Stmt → Expr × Pos × Pos × Pos × Pos × Pos
  | .Expr (.Call (.Attribute (.Call (.Name _ p0) [] [] p1) _ p2) [msg] [] p3) p4 :: _ => (msg, p0, p1, p2, p3, p4)
  | _ => (.Name "" q0, q0, q0, q0, q0, q0)
def bodyTooMany : List Stmt := defBody s_TooMany
def zTooMany0 : SupX.StP := stpOf (bodyTooMany.getD 1 (.Pass q0))
def zTooMany1 : SupX.StP := stpOf (bodyTooMany.getD 2 (.Pass q0))
theorem eTooMany : defBody s_TooMany = SupX.iB (headOf bodyTooMany).1 (headOf bodyTooMany).2.1 (headOf bodyTooMany).2.2.1 (headOf bodyTooMany).2.2.2.1 (headOf bodyTooMany).2.2.2.2.1 (headOf bodyTooMany).2.2.2.2.2 [zTooMany0, zTooMany1] := rfl
theorem scTooMany : SupX.SupScope (defScope s_TooMany) [zTooMany0, zTooMany1] := ⟨rfl, rfl, rfl, by decide +kernel, rfl, rfl, rfl, fun z hz => by
  rcases List.mem_cons.mp hz with h | h
  · rw [h]; exact ⟨rfl, by decide +kernel⟩
  · rw [List.mem_singleton.mp h]; exact ⟨rfl, by decide +kernel⟩, by decide +kernel⟩
theorem ppTooMany (fI : Addr) : SupX.SupPos "TooMany.__init__" (defScope s_TooMany) fI (headOf bodyTooMany).1 (headOf bodyTooMany).2.1 (headOf bodyTooMany).2.2.1 (headOf bodyTooMany).2.2.2.1 (headOf bodyTooMany).2.2.2.2.1 (headOf bodyTooMany).2.2.2.2.2 := ⟨fun _ _ _ => ⟨_, rfl⟩, fun _ _ _ => rfl, fun _ _ _ => rfl⟩
def bodyInvalidPlant : List Stmt := defBody s_InvalidPlant
def zInvalidPlant0 : SupX.StP := stpOf (bodyInvalidPlant.getD 1 (.Pass q0))
theorem eInvalidPlant : defBody s_InvalidPlant = SupX.iB (headOf bodyInvalidPlant).1 (headOf bodyInvalidPlant).2.1 (headOf bodyInvalidPlant).2.2.1 (headOf bodyInvalidPlant).2.2.2.1 (headOf bodyInvalidPlant).2.2.2.2.1 (headOf bodyInvalidPlant).2.2.2.2.2 [zInvalidPlant0] := rfl
theorem scInvalidPlant : SupX.SupScope (defScope s_InvalidPlant) [zInvalidPlant0] := ⟨rfl, rfl, rfl, by decide +kernel, rfl, rfl, rfl, fun z hz => by
  rw [List.mem_singleton.mp hz]; exact ⟨rfl, by decide +kernel⟩, by decide +kernel⟩
theorem ppInvalidPlant (fI : Addr) : SupX.SupPos "InvalidPlant.__init__" (defScope s_InvalidPlant) fI (headOf bodyInvalidPlant).1 (headOf bodyInvalidPlant).2.1 (headOf bodyInvalidPlant).2.2.1 (headOf bodyInvalidPlant).2.2.2.1 (headOf bodyInvalidPlant).2.2.2.2.1 (headOf bodyInvalidPlant).2.2.2.2.2 := ⟨fun _ _ _ => ⟨_, rfl⟩, fun _ _ _ => rfl, fun _ _ _ => rfl⟩
def bodyUnknownKind : List Stmt := defBody s_UnknownKind
def zUnknownKind0 : SupX.StP := stpOf (bodyUnknownKind.getD 1 (.Pass q0))
theorem eUnknownKind : defBody s_UnknownKind = SupX.iB (headOf bodyUnknownKind).1 (headOf bodyUnknownKind).2.1 (headOf bodyUnknownKind).2.2.1 (headOf bodyUnknownKind).2.2.2.1 (headOf bodyUnknownKind).2.2.2.2.1 (headOf bodyUnknownKind).2.2.2.2.2 [zUnknownKind0] := rfl
theorem scUnknownKind : SupX.SupScope (defScope s_UnknownKind) [zUnknownKind0] := ⟨rfl, rfl, rfl, by decide +kernel, rfl, rfl, rfl, fun z hz => by
  rw [List.mem_singleton.mp hz]; exact ⟨rfl, by decide +kernel⟩, by decide +kernel⟩
theorem ppUnknownKind (fI : Addr) : SupX.SupPos "UnknownKind.__init__" (defScope s_UnknownKind) fI (headOf bodyUnknownKind).1 (headOf bodyUnknownKind).2.1 (headOf bodyUnknownKind).2.2.1 (headOf bodyUnknownKind).2.2.2.1 (headOf bodyUnknownKind).2.2.2.2.1 (headOf bodyUnknownKind).2.2.2.2.2 := ⟨fun _ _ _ => ⟨_, rfl⟩, fun _ _ _ => rfl, fun _ _ _ => rfl⟩
def bodyWrongBranches : List Stmt := defBody s_WrongBranches
def zWrongBranches0 : SupX.StP := stpOf (bodyWrongBranches.getD 1 (.Pass q0))
def zWrongBranches1 : SupX.StP := stpOf (bodyWrongBranches.getD 2 (.Pass q0))
theorem eWrongBranches : defBody s_WrongBranches = SupX.iB (headOf bodyWrongBranches).1 (headOf bodyWrongBranches).2.1 (headOf bodyWrongBranches).2.2.1 (headOf bodyWrongBranches).2.2.2.1 (headOf bodyWrongBranches).2.2.2.2.1 (headOf bodyWrongBranches).2.2.2.2.2 [zWrongBranches0, zWrongBranches1] := rfl
theorem scWrongBranches : SupX.SupScope (defScope s_WrongBranches) [zWrongBranches0, zWrongBranches1] := ⟨rfl, rfl, rfl, by decide +kernel, rfl, rfl, rfl, fun z hz => by
  rcases List.mem_cons.mp hz with h | h
  · rw [h]; exact ⟨rfl, by decide +kernel⟩
  · rw [List.mem_singleton.mp h]; exact ⟨rfl, by decide +kernel⟩, by decide +kernel⟩
theorem ppWrongBranches (fI : Addr) : SupX.SupPos "WrongBranches.__init__" (defScope s_WrongBranches) fI (headOf bodyWrongBranches).1 (headOf bodyWrongBranches).2.1 (headOf bodyWrongBranches).2.2.1 (headOf bodyWrongBranches).2.2.2.1 (headOf bodyWrongBranches).2.2.2.2.1 (headOf bodyWrongBranches).2.2.2.2.2 := ⟨fun _ _ _ => ⟨_, rfl⟩, fun _ _ _ => rfl, fun _ _ _ => rfl⟩
theorem len_z {i : Int} (h0 : -3 ≤ i) (h : i ≤ 20000) : (Str.ofString (toString i)).length ≤ 6 := by
  have e := int_text_length_le10 (a := i) (k := 5) (by decide) (by omega)
  rw [PySem.ofString_length]
  exact e
theorem log_z {i : Int} (h0 : -3 ≤ i) (h : i ≤ 20000) : i.natAbs.log2 < 1920 := by
  by_cases c : i.natAbs = 0
  · rw [c]; decide
  · have h15 : i.natAbs.log2 < 15 := (Nat.log2_lt c).mpr (by omega)
    omega
def bodyInvalidReader : List Stmt := defBody s_InvalidReader
def zInvalidReader0 : SupX.StP := stpOf (bodyInvalidReader.getD 1 (.Pass q0))
theorem eInvalidReader : defBody s_InvalidReader = SupX.iB (headOf bodyInvalidReader).1 (headOf bodyInvalidReader).2.1 (headOf bodyInvalidReader).2.2.1 (headOf bodyInvalidReader).2.2.2.1 (headOf bodyInvalidReader).2.2.2.2.1 (headOf bodyInvalidReader).2.2.2.2.2 [zInvalidReader0] := rfl
theorem scInvalidReader : SupX.SupScope (defScope s_InvalidReader) [zInvalidReader0] := ⟨rfl, rfl, rfl, by decide +kernel, rfl, rfl, rfl, fun z hz => by
  rw [List.mem_singleton.mp hz]; exact ⟨rfl, by decide +kernel⟩, by decide +kernel⟩
theorem ppInvalidReader (fI : Addr) : SupX.SupPos "InvalidReader.__init__" (defScope s_InvalidReader) fI (headOf bodyInvalidReader).1 (headOf bodyInvalidReader).2.1 (headOf bodyInvalidReader).2.2.1 (headOf bodyInvalidReader).2.2.2.1 (headOf bodyInvalidReader).2.2.2.2.1 (headOf bodyInvalidReader).2.2.2.2.2 := ⟨fun _ _ _ => ⟨_, rfl⟩, fun _ _ _ => rfl, fun _ _ _ => rfl⟩
def bodyNoState : List Stmt := defBody s_NoState
def zNoState0 : SupX.StP := stpOf (bodyNoState.getD 1 (.Pass q0))
theorem eNoState : defBody s_NoState = SupX.iB (headOf bodyNoState).1 (headOf bodyNoState).2.1 (headOf bodyNoState).2.2.1 (headOf bodyNoState).2.2.2.1 (headOf bodyNoState).2.2.2.2.1 (headOf bodyNoState).2.2.2.2.2 [zNoState0] := rfl
theorem scNoState : SupX.SupScope (defScope s_NoState) [zNoState0] := ⟨rfl, rfl, rfl, by decide +kernel, rfl, rfl, rfl, fun z hz => by
  rw [List.mem_singleton.mp hz]; exact ⟨rfl, by decide +kernel⟩, by decide +kernel⟩
theorem ppNoState (fI : Addr) : SupX.SupPos "NoState.__init__" (defScope s_NoState) fI (headOf bodyNoState).1 (headOf bodyNoState).2.1 (headOf bodyNoState).2.2.1 (headOf bodyNoState).2.2.2.1 (headOf bodyNoState).2.2.2.2.1 (headOf bodyNoState).2.2.2.2.2 := ⟨fun _ _ _ => ⟨_, rfl⟩, fun _ _ _ => rfl, fun _ _ _ => rfl⟩
section
variable {w : World} {K : PySem.W.Frag} {mg : Str → Option Value}
theorem msg_TooMany {prog : Program} {x L fI : Addr} {cda cc : Addr} {vs : List V} {us : List Value} (rv : Vals vs us) (hP : tmP vs) : SupX.MsgOk prog w (PySem.W.ksEnv "TooMany.__init__" (defScope s_TooMany) L fI (.ref cda) cc) (fun y => (((("self" : Str) :: [zTooMany0, zTooMany1].map (·.f)).zip (.ref x :: us)).reverse).lookup y) (headOf bodyTooMany).1 := by
  subst hP
  obtain ⟨u1, u2, rfl, ⟨t1, rfl⟩, ⟨t2, rfl⟩⟩ := vals2 rv
  intro A E s Q hn hq
  have e1 : (((("self" : Str) :: [zTooMany0, zTooMany1].map (·.f)).zip [Value.ref x, .str "knots" t1, .int 2000 t2]).reverse).lookup ("what" : Str) = some (.str "knots" t1) := rfl
  have e2 : (((("self" : Str) :: [zTooMany0, zTooMany1].map (·.f)).zip [Value.ref x, .str "knots" t1, .int 2000 t2]).reverse).lookup ("limit" : Str) = some (.int 2000 t2) := rfl
  show wpAny _ _ (eval (.JoinedStr [.Constant (.str "too many ") _ _, .FormattedValue (.Name "what" _) (-1) none _, .Constant (.str ": the limit is ") _ _, .FormattedValue (.Name "limit" _) (-1) none _] _) _) Q E s
  refine wpAny_JoinedStr ?_
  refine wpAny_Constant_str ⟨_, _, rfl, le_line (by decide +kernel), ?_⟩
  refine wpAny_FormattedValue_plain (SupX.ldK hn e1 ?_ rfl rfl (by decide +kernel))
  refine wpAny_formatField_str ⟨_, _, rfl, le_line (by decide +kernel), ?_⟩ ⟨_, _, rfl, le_line (by decide +kernel), ?_⟩ (le_line (by decide +kernel))
  all_goals
    refine wpAny_Constant_str ⟨_, _, rfl, le_line (by decide +kernel), ?_⟩
    refine wpAny_FormattedValue_plain (SupX.ldK hn e2 ?_ rfl rfl (by decide +kernel))
    refine wpAny_formatField_int (by decide +kernel) ⟨_, _, rfl, le_line (by decide +kernel), ?_⟩
    exact ⟨le_line (by decide +kernel), hq _ _⟩
theorem msg_InvalidPlant {prog : Program} {x L fI : Addr} {cda cc : Addr} {vs : List V} {us : List Value} (rv : Vals vs us) (hP : plP vs) : SupX.MsgOk prog w (PySem.W.ksEnv "InvalidPlant.__init__" (defScope s_InvalidPlant) L fI (.ref cda) cc) (fun y => (((("self" : Str) :: [zInvalidPlant0].map (·.f)).zip (.ref x :: us)).reverse).lookup y) (headOf bodyInvalidPlant).1 := by
  obtain ⟨i, rfl, hi⟩ := hP
  obtain ⟨u1, rfl, ⟨t1, rfl⟩⟩ := vals1 rv
  intro A E s Q hn hq
  have e1 : (((("self" : Str) :: [zInvalidPlant0].map (·.f)).zip [Value.ref x, .int ((i : Nat) : Int) t1]).reverse).lookup ("place" : Str) = some (.int ((i : Nat) : Int) t1) := rfl
  show wpAny _ _ (eval (.JoinedStr [.Constant (.str "invalid plant at ") _ _, .FormattedValue (.Name "place" _) (-1) none _] _) _) Q E s
  refine wpAny_JoinedStr ?_
  refine wpAny_Constant_str ⟨_, _, rfl, le_line (by decide +kernel), ?_⟩
  refine wpAny_FormattedValue_plain (SupX.ldK hn e1 ?_ rfl rfl (by decide +kernel))
  have hl := acc_le (x := Str.empty ++ ("invalid plant at " : Str)) (n := 17) (by decide +kernel) (len_i hi) (by decide)
  refine wpAny_formatField_int (log_i hi) ⟨_, _, rfl, hl, ?_⟩
  exact ⟨hl, hq _ _⟩
theorem msg_UnknownKind {prog : Program} {x L fI : Addr} {cda cc : Addr} {vs : List V} {us : List Value} (rv : Vals vs us) (hP : ukP vs) : SupX.MsgOk prog w (PySem.W.ksEnv "UnknownKind.__init__" (defScope s_UnknownKind) L fI (.ref cda) cc) (fun y => (((("self" : Str) :: [zUnknownKind0].map (·.f)).zip (.ref x :: us)).reverse).lookup y) (headOf bodyUnknownKind).1 := by
  obtain ⟨z, rfl, hz, hc⟩ := hP
  obtain ⟨u1, rfl, ⟨t1, rfl⟩⟩ := vals1 rv
  intro A E s Q hn hq
  have e1 : (((("self" : Str) :: [zUnknownKind0].map (·.f)).zip [Value.ref x, .str z t1]).reverse).lookup ("kind" : Str) = some (.str z t1) := rfl
  have hr : (reprText z).length ≤ 1002 := by have := StrLaws.reprText_len z hc; omega
  show wpAny _ _ (eval (.JoinedStr [.Constant (.str "unknown kind: ") _ _, .FormattedValue (.Name "kind" _) 114 none _] _) _) Q E s
  refine wpAny_JoinedStr ?_
  refine wpAny_Constant_str ⟨_, _, rfl, le_line (by decide +kernel), ?_⟩
  refine wpAny_FormattedValue_repr (SupX.ldK hn e1 ?_ rfl rfl (by decide +kernel))
  have hl := acc_le (x := Str.empty ++ ("unknown kind: " : Str)) (n := 14) (by decide +kernel) hr (by decide)
  refine pyReprObj_str ?_ (le_line (by omega))
  refine wpAny_formatField_str ⟨_, _, rfl, hl, ?_⟩ ⟨_, _, rfl, hl, ?_⟩ (le_line (by omega))
  all_goals exact ⟨hl, hq _ _⟩
theorem msg_WrongBranches {prog : Program} {x L fI : Addr} {cda cc : Addr} {vs : List V} {us : List Value} (rv : Vals vs us) (hP : wrP vs) : SupX.MsgOk prog w (PySem.W.ksEnv "WrongBranches.__init__" (defScope s_WrongBranches) L fI (.ref cda) cc) (fun y => (((("self" : Str) :: [zWrongBranches0, zWrongBranches1].map (·.f)).zip (.ref x :: us)).reverse).lookup y) (headOf bodyWrongBranches).1 := by
  obtain ⟨i, j, rfl, hi, hj⟩ := hP
  obtain ⟨u1, u2, rfl, ⟨t1, rfl⟩, ⟨t2, rfl⟩⟩ := vals2 rv
  intro A E s Q hn hq
  have e1 : (((("self" : Str) :: [zWrongBranches0, zWrongBranches1].map (·.f)).zip [Value.ref x, .int ((i : Nat) : Int) t1, .int ((j : Nat) : Int) t2]).reverse).lookup ("wanted" : Str) = some (.int ((i : Nat) : Int) t1) := rfl
  have e2 : (((("self" : Str) :: [zWrongBranches0, zWrongBranches1].map (·.f)).zip [Value.ref x, .int ((i : Nat) : Int) t1, .int ((j : Nat) : Int) t2]).reverse).lookup ("given" : Str) = some (.int ((j : Nat) : Int) t2) := rfl
  show wpAny _ _ (eval (.JoinedStr [.FormattedValue (.Name "wanted" _) (-1) none _, .Constant (.str " wanted, ") _ _, .FormattedValue (.Name "given" _) (-1) none _, .Constant (.str " given") _ _] _) _) Q E s
  have a1 := acc_n (x := Str.empty) (n := 0) (by decide +kernel) (len_i hi)
  have a2 := acc_n a1 (show (" wanted, " : Str).length ≤ 9 by decide +kernel)
  have a3 := acc_n a2 (len_i hj)
  have a4 := acc_n a3 (show (" given" : Str).length ≤ 6 by decide +kernel)
  refine wpAny_JoinedStr ?_
  refine wpAny_FormattedValue_plain (SupX.ldK hn e1 ?_ rfl rfl (by decide +kernel))
  refine wpAny_formatField_int (log_i hi) ⟨_, _, rfl, le_line (by omega), ?_⟩
  refine wpAny_Constant_str ⟨_, _, rfl, le_line (by omega), ?_⟩
  refine wpAny_FormattedValue_plain (SupX.ldK hn e2 ?_ rfl rfl (by decide +kernel))
  refine wpAny_formatField_int (log_i hj) ⟨_, _, rfl, le_line (by omega), ?_⟩
  refine wpAny_Constant_str ⟨_, _, rfl, le_line (by omega), ?_⟩
  exact ⟨le_line (by omega), hq _ _⟩
theorem sup_TooMany {h : Heap} (X : K.In h) (G : h.Ns mainGlobals mg) (gs : mg "super" = none) (F : Hx.XFacts TL.prog K xTooMany [zTooMany0, zTooMany1]) : PySem.SupX.SupCls TL.prog w K mg "TooMany" (He.ga K "TooMany") ["what", "limit"] tmP := by
  have T := F.txt
  have T2 : SupX.SupTxt TL.prog K (He.ga K "TooMany") (Hx.iOf K "TooMany") "TooMany.__init__" (defArgs s_TooMany) (SupX.iB (headOf bodyTooMany).1 (headOf bodyTooMany).2.1 (headOf bodyTooMany).2.2.1 (headOf bodyTooMany).2.2.2.1 (headOf bodyTooMany).2.2.2.2.1 (headOf bodyTooMany).2.2.2.2.2 [zTooMany0, zTooMany1]) (defScope s_TooMany) [zTooMany0, zTooMany1] := by
    rw [← eTooMany]
    exact T
  refine ⟨PySem.W.mg_of X G F.gl, gs, T.kC, T.exC, T.tyC, fun A s R mb vs us rv hP hl K1 hlim hG hB hbs hroom hq => ?_⟩
  exact SupX.sup_made (ppTooMany _) T2 scTooMany (by decide +kernel) ⟨_, rfl, rfl⟩ (fun _ _ _ _ _ _ _ us hu => match us, hu with | [_, _, _], _ => rfl) K1 hlim hG gs hB hbs (by rw [← rv.length, hl]; rfl) hroom (by decide) (fun x L cda cc => msg_TooMany rv hP) hq
theorem sup_InvalidPlant {h : Heap} (X : K.In h) (G : h.Ns mainGlobals mg) (gs : mg "super" = none) (F : Hx.XFacts TL.prog K xInvalidPlant [zInvalidPlant0]) : PySem.SupX.SupCls TL.prog w K mg "InvalidPlant" (He.ga K "InvalidPlant") ["place"] plP := by
  have T := F.txt
  have T2 : SupX.SupTxt TL.prog K (He.ga K "InvalidPlant") (Hx.iOf K "InvalidPlant") "InvalidPlant.__init__" (defArgs s_InvalidPlant) (SupX.iB (headOf bodyInvalidPlant).1 (headOf bodyInvalidPlant).2.1 (headOf bodyInvalidPlant).2.2.1 (headOf bodyInvalidPlant).2.2.2.1 (headOf bodyInvalidPlant).2.2.2.2.1 (headOf bodyInvalidPlant).2.2.2.2.2 [zInvalidPlant0]) (defScope s_InvalidPlant) [zInvalidPlant0] := by
    rw [← eInvalidPlant]
    exact T
  refine ⟨PySem.W.mg_of X G F.gl, gs, T.kC, T.exC, T.tyC, fun A s R mb vs us rv hP hl K1 hlim hG hB hbs hroom hq => ?_⟩
  exact SupX.sup_made (ppInvalidPlant _) T2 scInvalidPlant (by decide +kernel) ⟨_, rfl, rfl⟩ (fun _ _ _ _ _ _ _ us hu => match us, hu with | [_, _], _ => rfl) K1 hlim hG gs hB hbs (by rw [← rv.length, hl]; rfl) hroom (by decide) (fun x L cda cc => msg_InvalidPlant rv hP) hq
theorem sup_UnknownKind {h : Heap} (X : K.In h) (G : h.Ns mainGlobals mg) (gs : mg "super" = none) (F : Hx.XFacts TL.prog K xUnknownKind [zUnknownKind0]) : PySem.SupX.SupCls TL.prog w K mg "UnknownKind" (He.ga K "UnknownKind") ["kind"] ukP := by
  have T := F.txt
  have T2 : SupX.SupTxt TL.prog K (He.ga K "UnknownKind") (Hx.iOf K "UnknownKind") "UnknownKind.__init__" (defArgs s_UnknownKind) (SupX.iB (headOf bodyUnknownKind).1 (headOf bodyUnknownKind).2.1 (headOf bodyUnknownKind).2.2.1 (headOf bodyUnknownKind).2.2.2.1 (headOf bodyUnknownKind).2.2.2.2.1 (headOf bodyUnknownKind).2.2.2.2.2 [zUnknownKind0]) (defScope s_UnknownKind) [zUnknownKind0] := by
    rw [← eUnknownKind]
    exact T
  refine ⟨PySem.W.mg_of X G F.gl, gs, T.kC, T.exC, T.tyC, fun A s R mb vs us rv hP hl K1 hlim hG hB hbs hroom hq => ?_⟩
  exact SupX.sup_made (ppUnknownKind _) T2 scUnknownKind (by decide +kernel) ⟨_, rfl, rfl⟩ (fun _ _ _ _ _ _ _ us hu => match us, hu with | [_, _], _ => rfl) K1 hlim hG gs hB hbs (by rw [← rv.length, hl]; rfl) hroom (by decide) (fun x L cda cc => msg_UnknownKind rv hP) hq
theorem sup_WrongBranches {h : Heap} (X : K.In h) (G : h.Ns mainGlobals mg) (gs : mg "super" = none) (F : Hx.XFacts TL.prog K xWrongBranches [zWrongBranches0, zWrongBranches1]) : PySem.SupX.SupCls TL.prog w K mg "WrongBranches" (He.ga K "WrongBranches") ["wanted", "given"] wrP := by
  have T := F.txt
  have T2 : SupX.SupTxt TL.prog K (He.ga K "WrongBranches") (Hx.iOf K "WrongBranches") "WrongBranches.__init__" (defArgs s_WrongBranches) (SupX.iB (headOf bodyWrongBranches).1 (headOf bodyWrongBranches).2.1 (headOf bodyWrongBranches).2.2.1 (headOf bodyWrongBranches).2.2.2.1 (headOf bodyWrongBranches).2.2.2.2.1 (headOf bodyWrongBranches).2.2.2.2.2 [zWrongBranches0, zWrongBranches1]) (defScope s_WrongBranches) [zWrongBranches0, zWrongBranches1] := by
    rw [← eWrongBranches]
    exact T
  refine ⟨PySem.W.mg_of X G F.gl, gs, T.kC, T.exC, T.tyC, fun A s R mb vs us rv hP hl K1 hlim hG hB hbs hroom hq => ?_⟩
  exact SupX.sup_made (ppWrongBranches _) T2 scWrongBranches (by decide +kernel) ⟨_, rfl, rfl⟩ (fun _ _ _ _ _ _ _ us hu => match us, hu with | [_, _, _], _ => rfl) K1 hlim hG gs hB hbs (by rw [← rv.length, hl]; rfl) hroom (by decide) (fun x L cda cc => msg_WrongBranches rv hP) hq
theorem msg_TooManyS {prog : Program} {x L fI : Addr} {cda cc : Addr} {vs : List V} {us : List Value} (rv : Vals vs us) (hP : tmPS vs) : SupX.MsgOk prog w (PySem.W.ksEnv "TooMany.__init__" (defScope s_TooMany) L fI (.ref cda) cc) (fun y => (((("self" : Str) :: [zTooMany0, zTooMany1].map (·.f)).zip (.ref x :: us)).reverse).lookup y) (headOf bodyTooMany).1 := by
  subst hP
  obtain ⟨u1, u2, rfl, ⟨t1, rfl⟩, ⟨t2, rfl⟩⟩ := vals2 rv
  intro A E s Q hn hq
  have e1 : (((("self" : Str) :: [zTooMany0, zTooMany1].map (·.f)).zip [Value.ref x, .str "states" t1, .int 40 t2]).reverse).lookup ("what" : Str) = some (.str "states" t1) := rfl
  have e2 : (((("self" : Str) :: [zTooMany0, zTooMany1].map (·.f)).zip [Value.ref x, .str "states" t1, .int 40 t2]).reverse).lookup ("limit" : Str) = some (.int 40 t2) := rfl
  show wpAny _ _ (eval (.JoinedStr [.Constant (.str "too many ") _ _, .FormattedValue (.Name "what" _) (-1) none _, .Constant (.str ": the limit is ") _ _, .FormattedValue (.Name "limit" _) (-1) none _] _) _) Q E s
  refine wpAny_JoinedStr ?_
  refine wpAny_Constant_str ⟨_, _, rfl, le_line (by decide +kernel), ?_⟩
  refine wpAny_FormattedValue_plain (SupX.ldK hn e1 ?_ rfl rfl (by decide +kernel))
  refine wpAny_formatField_str ⟨_, _, rfl, le_line (by decide +kernel), ?_⟩ ⟨_, _, rfl, le_line (by decide +kernel), ?_⟩ (le_line (by decide +kernel))
  all_goals
    refine wpAny_Constant_str ⟨_, _, rfl, le_line (by decide +kernel), ?_⟩
    refine wpAny_FormattedValue_plain (SupX.ldK hn e2 ?_ rfl rfl (by decide +kernel))
    refine wpAny_formatField_int (by decide +kernel) ⟨_, _, rfl, le_line (by decide +kernel), ?_⟩
    exact ⟨le_line (by decide +kernel), hq _ _⟩
theorem sup_TooManyS {h : Heap} (X : K.In h) (G : h.Ns mainGlobals mg) (gs : mg "super" = none) (F : Hx.XFacts TL.prog K xTooMany [zTooMany0, zTooMany1]) : PySem.SupX.SupCls TL.prog w K mg "TooMany" (He.ga K "TooMany") ["what", "limit"] tmPS := by
  have T := F.txt
  have T2 : SupX.SupTxt TL.prog K (He.ga K "TooMany") (Hx.iOf K "TooMany") "TooMany.__init__" (defArgs s_TooMany) (SupX.iB (headOf bodyTooMany).1 (headOf bodyTooMany).2.1 (headOf bodyTooMany).2.2.1 (headOf bodyTooMany).2.2.2.1 (headOf bodyTooMany).2.2.2.2.1 (headOf bodyTooMany).2.2.2.2.2 [zTooMany0, zTooMany1]) (defScope s_TooMany) [zTooMany0, zTooMany1] := by
    rw [← eTooMany]
    exact T
  refine ⟨PySem.W.mg_of X G F.gl, gs, T.kC, T.exC, T.tyC, fun A s R mb vs us rv hP hl K1 hlim hG hB hbs hroom hq => ?_⟩
  exact SupX.sup_made (ppTooMany _) T2 scTooMany (by decide +kernel) ⟨_, rfl, rfl⟩ (fun _ _ _ _ _ _ _ us hu => match us, hu with | [_, _, _], _ => rfl) K1 hlim hG gs hB hbs (by rw [← rv.length, hl]; rfl) hroom (by decide) (fun x L cda cc => msg_TooManyS rv hP) hq
theorem msg_InvalidReader {prog : Program} {x L fI : Addr} {cda cc : Addr} {vs : List V} {us : List Value} (rv : Vals vs us) (hP : irP vs) : SupX.MsgOk prog w (PySem.W.ksEnv "InvalidReader.__init__" (defScope s_InvalidReader) L fI (.ref cda) cc) (fun y => (((("self" : Str) :: [zInvalidReader0].map (·.f)).zip (.ref x :: us)).reverse).lookup y) (headOf bodyInvalidReader).1 := by
  obtain ⟨i, rfl, hi0, hi1⟩ := hP
  obtain ⟨u1, rfl, ⟨t1, rfl⟩⟩ := vals1 rv
  intro A E s Q hn hq
  have e1 : (((("self" : Str) :: [zInvalidReader0].map (·.f)).zip [Value.ref x, .int i t1]).reverse).lookup ("place" : Str) = some (.int i t1) := rfl
  show wpAny _ _ (eval (.JoinedStr [.Constant (.str "invalid reader at ") _ _, .FormattedValue (.Name "place" _) (-1) none _] _) _) Q E s
  refine wpAny_JoinedStr ?_
  refine wpAny_Constant_str ⟨_, _, rfl, le_line (by decide +kernel), ?_⟩
  refine wpAny_FormattedValue_plain (SupX.ldK hn e1 ?_ rfl rfl (by decide +kernel))
  have hl := acc_le (x := Str.empty ++ ("invalid reader at " : Str)) (n := 18) (by decide +kernel) (len_z hi0 hi1) (by decide)
  refine wpAny_formatField_int (log_z hi0 hi1) ⟨_, _, rfl, hl, ?_⟩
  exact ⟨hl, hq _ _⟩
theorem sup_InvalidReader {h : Heap} (X : K.In h) (G : h.Ns mainGlobals mg) (gs : mg "super" = none) (F : Hx.XFacts TL.prog K xInvalidReader [zInvalidReader0]) : PySem.SupX.SupCls TL.prog w K mg "InvalidReader" (He.ga K "InvalidReader") ["place"] irP := by
  have T := F.txt
  have T2 : SupX.SupTxt TL.prog K (He.ga K "InvalidReader") (Hx.iOf K "InvalidReader") "InvalidReader.__init__" (defArgs s_InvalidReader) (SupX.iB (headOf bodyInvalidReader).1 (headOf bodyInvalidReader).2.1 (headOf bodyInvalidReader).2.2.1 (headOf bodyInvalidReader).2.2.2.1 (headOf bodyInvalidReader).2.2.2.2.1 (headOf bodyInvalidReader).2.2.2.2.2 [zInvalidReader0]) (defScope s_InvalidReader) [zInvalidReader0] := by
    rw [← eInvalidReader]
    exact T
  refine ⟨PySem.W.mg_of X G F.gl, gs, T.kC, T.exC, T.tyC, fun A s R mb vs us rv hP hl K1 hlim hG hB hbs hroom hq => ?_⟩
  exact SupX.sup_made (ppInvalidReader _) T2 scInvalidReader (by decide +kernel) ⟨_, rfl, rfl⟩ (fun _ _ _ _ _ _ _ us hu => match us, hu with | [_, _], _ => rfl) K1 hlim hG gs hB hbs (by rw [← rv.length, hl]; rfl) hroom (by decide) (fun x L cda cc => msg_InvalidReader rv hP) hq
theorem msg_NoState {prog : Program} {x L fI : Addr} {cda cc : Addr} {us : List Value} : SupX.MsgOk prog w (PySem.W.ksEnv "NoState.__init__" (defScope s_NoState) L fI (.ref cda) cc) (fun y => (((("self" : Str) :: [zNoState0].map (·.f)).zip (.ref x :: us)).reverse).lookup y) (headOf bodyNoState).1 := by
  intro A E s Q hn hq
  show wpAny _ _ (eval (.Constant (.str "there is no such state") _ _) _) Q E s
  exact wpAny_Constant_str (hq _ _)
theorem sup_NoState {h : Heap} (X : K.In h) (G : h.Ns mainGlobals mg) (gs : mg "super" = none) (F : Hx.XFacts TL.prog K xNoState [zNoState0]) : PySem.SupX.SupCls TL.prog w K mg "NoState" (He.ga K "NoState") ["state"] nsP := by
  have T := F.txt
  have T2 : SupX.SupTxt TL.prog K (He.ga K "NoState") (Hx.iOf K "NoState") "NoState.__init__" (defArgs s_NoState) (SupX.iB (headOf bodyNoState).1 (headOf bodyNoState).2.1 (headOf bodyNoState).2.2.1 (headOf bodyNoState).2.2.2.1 (headOf bodyNoState).2.2.2.2.1 (headOf bodyNoState).2.2.2.2.2 [zNoState0]) (defScope s_NoState) [zNoState0] := by
    rw [← eNoState]
    exact T
  refine ⟨PySem.W.mg_of X G F.gl, gs, T.kC, T.exC, T.tyC, fun A s R mb vs us rv hP hl K1 hlim hG hB hbs hroom hq => ?_⟩
  exact SupX.sup_made (ppNoState _) T2 scNoState (by decide +kernel) ⟨_, rfl, rfl⟩ (fun _ _ _ _ _ _ _ us hu => match us, hu with | [_, _], _ => rfl) K1 hlim hG gs hB hbs (by rw [← rv.length, hl]; rfl) hroom (by decide) (fun x L cda cc => msg_NoState) hq
end
end Sh
end
section
set_option Elab.async false
set_option linter.all false
set_option maxRecDepth 100000
set_option maxHeartbeats 4000000
set_option autoImplicit false
namespace Sh
open PySem PySem.Spec PyProof.Rows L2
theorem ob_eq (s : PySem.W.SharedT) : ob s = hk.obs s.abs := Hx.obsV_eq (HandSHeadRun.getT_eq s)
def AK (K : PySem.W.Frag) : XA := ⟨He.ga K "TooMany", He.ga K "InvalidPlant", 0, 0, He.ga K "UnknownKind", He.ga K "WrongBranches"⟩
def BK (K : PySem.W.Frag) : XB := ⟨He.ga K "TooMany", He.ga K "InvalidReader"⟩
theorem facts {w : World} {K : PySem.W.Frag} {h : Heap} {mg : Str → Option Value} {f : Addr} (X : K.In h) (G : h.Ns mainGlobals mg) (hfa : mg ("law" : Str) = some (.ref f)) (c : He5.SaysA fa fn K) (x1 : (xs.all fun d => d.ok TL.prog.main.file K) = true) (x2 : (xs.map fun d => Hx.xvOf K d.x) = xs.map Hx.XDef.val) (x3 : (nsX.all fun x => Hx.zB K "YardError" nsX x) = true) (tw : Hx.TabsW tbF h K) (cm : (cmN.all fun p => Hx.cmB K p) = true) :
    ∃ fd : FuncData, (∀ (s : Shared) (v : Value), BindsTo s fd ⟨[v], []⟩ [("script", v)]) ∧ ∀ base : Heap, K.In base → base.Ns mainGlobals mg → (∀ p ∈ tbN.map fun x => He.cT K (x, none), LamX.TabB base mg p.1 p.2) → FnOk TL.prog w K mg base CX0 11 f fd ["script"] (spLawK K) := by
  have D_check_size : Def0 K mg "check_size" s_check_size := by
    obtain ⟨fd, F⟩ := c.def_ 0 (d := toA (dOf "check_size" s_check_size)) rfl
    exact ⟨_, fd, He.glo_ok X G (c.fact 0 (f := .glo "check_size") rfl), F⟩
  have D_fault_place : Def0 K mg "fault_place" s_fault_place := by
    obtain ⟨fd, F⟩ := c.def_ 1 (d := toA (dOf "fault_place" s_fault_place)) rfl
    exact ⟨_, fd, He.glo_ok X G (c.fact 1 (f := .glo "fault_place") rfl), F⟩
  have D_check_plant : Def0 K mg "check_plant" s_check_plant := by
    obtain ⟨fd, F⟩ := c.def_ 2 (d := toA (dOf "check_plant" s_check_plant)) rfl
    exact ⟨_, fd, He.glo_ok X G (c.fact 2 (f := .glo "check_plant") rfl), F⟩
  have D_all_rows : Def0 K mg "all_rows" s_all_rows := by
    obtain ⟨fd, F⟩ := c.def_ 3 (d := toA (dOf "all_rows" s_all_rows)) rfl
    exact ⟨_, fd, He.glo_ok X G (c.fact 3 (f := .glo "all_rows") rfl), F⟩
  have D_rows_from : Def0 K mg "rows_from" s_rows_from := by
    obtain ⟨fd, F⟩ := c.def_ 4 (d := toA (dOf "rows_from" s_rows_from)) rfl
    exact ⟨_, fd, He.glo_ok X G (c.fact 4 (f := .glo "rows_from") rfl), F⟩
  have D_check_states : Def0 K mg "check_states" s_check_states := by
    obtain ⟨fd, F⟩ := c.def_ 5 (d := toA (dOf "check_states" s_check_states)) rfl
    exact ⟨_, fd, He.glo_ok X G (c.fact 5 (f := .glo "check_states") rfl), F⟩
  have D_rows_by_kind : Def0 K mg "rows_by_kind" s_rows_by_kind := by
    obtain ⟨fd, F⟩ := c.def_ 6 (d := toA (dOf "rows_by_kind" s_rows_by_kind)) rfl
    exact ⟨_, fd, He.glo_ok X G (c.fact 6 (f := .glo "rows_by_kind") rfl), F⟩
  have D_are_states : Def0 K mg "are_states" s_are_states := by
    obtain ⟨fd, F⟩ := c.def_ 7 (d := toA (dOf "are_states" s_are_states)) rfl
    exact ⟨_, fd, He.glo_ok X G (c.fact 7 (f := .glo "are_states") rfl), F⟩
  have D_check_marks : Def0 K mg "check_marks" s_check_marks := by
    obtain ⟨fd, F⟩ := c.def_ 8 (d := toA (dOf "check_marks" s_check_marks)) rfl
    exact ⟨_, fd, He.glo_ok X G (c.fact 8 (f := .glo "check_marks") rfl), F⟩
  have D_all_letters : Def0 K mg "all_letters" s_all_letters := by
    obtain ⟨fd, F⟩ := c.def_ 9 (d := toA (dOf "all_letters" s_all_letters)) rfl
    exact ⟨_, fd, He.glo_ok X G (c.fact 9 (f := .glo "all_letters") rfl), F⟩
  have D_is_name : Def0 K mg "is_name" s_is_name := by
    obtain ⟨fd, F⟩ := c.def_ 10 (d := toA (dOf "is_name" s_is_name)) rfl
    exact ⟨_, fd, He.glo_ok X G (c.fact 10 (f := .glo "is_name") rfl), F⟩
  have D_check_pairs : Def0 K mg "check_pairs" s_check_pairs := by
    obtain ⟨fd, F⟩ := c.def_ 11 (d := toA (dOf "check_pairs" s_check_pairs)) rfl
    exact ⟨_, fd, He.glo_ok X G (c.fact 11 (f := .glo "check_pairs") rfl), F⟩
  have D__law_box : Def0 K mg "_law_box" s_law_box := by
    obtain ⟨fd, F⟩ := c.def_ 12 (d := toA (dOf "_law_box" s_law_box)) rfl
    exact ⟨_, fd, He.glo_ok X G (c.fact 12 (f := .glo "_law_box") rfl), F⟩
  have D__law_take : Def0 K mg "_law_take" s_law_take := by
    obtain ⟨fd, F⟩ := c.def_ 13 (d := toA (dOf "_law_take" s_law_take)) rfl
    exact ⟨_, fd, He.glo_ok X G (c.fact 13 (f := .glo "_law_take") rfl), F⟩
  have D__law_bed : Def0 K mg "_law_bed" s_law_bed := by
    obtain ⟨fd, F⟩ := c.def_ 14 (d := toA (dOf "_law_bed" s_law_bed)) rfl
    exact ⟨_, fd, He.glo_ok X G (c.fact 14 (f := .glo "_law_bed") rfl), F⟩
  have D__law_text : Def0 K mg "_law_text" s_law_text := by
    obtain ⟨fd, F⟩ := c.def_ 15 (d := toA (dOf "_law_text" s_law_text)) rfl
    exact ⟨_, fd, He.glo_ok X G (c.fact 15 (f := .glo "_law_text") rfl), F⟩
  have D__law_tuples : Def0 K mg "_law_tuples" s_law_tuples := by
    obtain ⟨fd, F⟩ := c.def_ 16 (d := toA (dOf "_law_tuples" s_law_tuples)) rfl
    exact ⟨_, fd, He.glo_ok X G (c.fact 16 (f := .glo "_law_tuples") rfl), F⟩
  have D__law_marks : Def0 K mg "_law_marks" s_law_marks := by
    obtain ⟨fd, F⟩ := c.def_ 17 (d := toA (dOf "_law_marks" s_law_marks)) rfl
    exact ⟨_, fd, He.glo_ok X G (c.fact 17 (f := .glo "_law_marks") rfl), F⟩
  have D__law_reader : Def0 K mg "_law_reader" s_law_reader := by
    obtain ⟨fd, F⟩ := c.def_ 18 (d := toA (dOf "_law_reader" s_law_reader)) rfl
    exact ⟨_, fd, He.glo_ok X G (c.fact 18 (f := .glo "_law_reader") rfl), F⟩
  have D__law_long : Def0 K mg "_law_long" s_law_long := by
    obtain ⟨fd, F⟩ := c.def_ 19 (d := toA (dOf "_law_long" s_law_long)) rfl
    exact ⟨_, fd, He.glo_ok X G (c.fact 19 (f := .glo "_law_long") rfl), F⟩
  have D__law_made : Def0 K mg "_law_made" s_law_made := by
    obtain ⟨fd, F⟩ := c.def_ 20 (d := toA (dOf "_law_made" s_law_made)) rfl
    exact ⟨_, fd, He.glo_ok X G (c.fact 20 (f := .glo "_law_made") rfl), F⟩
  have D__law_same : Def0 K mg "_law_same" s_law_same := by
    obtain ⟨fd, F⟩ := c.def_ 21 (d := toA (dOf "_law_same" s_law_same)) rfl
    exact ⟨_, fd, He.glo_ok X G (c.fact 21 (f := .glo "_law_same") rfl), F⟩
  have D__law_sizes : Def0 K mg "_law_sizes" s_law_sizes := by
    obtain ⟨fd, F⟩ := c.def_ 22 (d := toA (dOf "_law_sizes" s_law_sizes)) rfl
    exact ⟨_, fd, He.glo_ok X G (c.fact 22 (f := .glo "_law_sizes") rfl), F⟩
  have D__law_fault : Def0 K mg "_law_fault" s_law_fault := by
    obtain ⟨fd, F⟩ := c.def_ 23 (d := toA (dOf "_law_fault" s_law_fault)) rfl
    exact ⟨_, fd, He.glo_ok X G (c.fact 23 (f := .glo "_law_fault") rfl), F⟩
  have D__law_row_states : Def0 K mg "_law_row_states" s_law_row_states := by
    obtain ⟨fd, F⟩ := c.def_ 24 (d := toA (dOf "_law_row_states" s_law_row_states)) rfl
    exact ⟨_, fd, He.glo_ok X G (c.fact 24 (f := .glo "_law_row_states") rfl), F⟩
  have D__law_plant : Def0 K mg "_law_plant" s_law_plant := by
    obtain ⟨fd, F⟩ := c.def_ 25 (d := toA (dOf "_law_plant" s_law_plant)) rfl
    exact ⟨_, fd, He.glo_ok X G (c.fact 25 (f := .glo "_law_plant") rfl), F⟩
  have D__law_stranger : Def0 K mg "_law_stranger" s_law_stranger := by
    obtain ⟨fd, F⟩ := c.def_ 26 (d := toA (dOf "_law_stranger" s_law_stranger)) rfl
    exact ⟨_, fd, He.glo_ok X G (c.fact 26 (f := .glo "_law_stranger") rfl), F⟩
  have D__law_kept : Def0 K mg "_law_kept" s_law_kept := by
    obtain ⟨fd, F⟩ := c.def_ 27 (d := toA (dOf "_law_kept" s_law_kept)) rfl
    exact ⟨_, fd, He.glo_ok X G (c.fact 27 (f := .glo "_law_kept") rfl), F⟩
  have D__law_tall : Def0 K mg "_law_tall" s_law_tall := by
    obtain ⟨fd, F⟩ := c.def_ 28 (d := toA (dOf "_law_tall" s_law_tall)) rfl
    exact ⟨_, fd, He.glo_ok X G (c.fact 28 (f := .glo "_law_tall") rfl), F⟩
  have D__law_bent_row : Def0 K mg "_law_bent_row" s_law_bent_row := by
    obtain ⟨fd, F⟩ := c.def_ 29 (d := toA (dOf "_law_bent_row" s_law_bent_row)) rfl
    exact ⟨_, fd, He.glo_ok X G (c.fact 29 (f := .glo "_law_bent_row") rfl), F⟩
  have D__law_told : Def0 K mg "_law_told" s_law_told := by
    obtain ⟨fd, F⟩ := c.def_ 30 (d := toA (dOf "_law_told" s_law_told)) rfl
    exact ⟨_, fd, He.glo_ok X G (c.fact 30 (f := .glo "_law_told") rfl), F⟩
  have D__law_row_right : Def0 K mg "_law_row_right" s_law_row_right := by
    obtain ⟨fd, F⟩ := c.def_ 31 (d := toA (dOf "_law_row_right" s_law_row_right)) rfl
    exact ⟨_, fd, He.glo_ok X G (c.fact 31 (f := .glo "_law_row_right") rfl), F⟩
  have D__law_steps_right : Def0 K mg "_law_steps_right" s_law_steps_right := by
    obtain ⟨fd, F⟩ := c.def_ 32 (d := toA (dOf "_law_steps_right" s_law_steps_right)) rfl
    exact ⟨_, fd, He.glo_ok X G (c.fact 32 (f := .glo "_law_steps_right") rfl), F⟩
  have D__law_step_told : Def0 K mg "_law_step_told" s_law_step_told := by
    obtain ⟨fd, F⟩ := c.def_ 33 (d := toA (dOf "_law_step_told" s_law_step_told)) rfl
    exact ⟨_, fd, He.glo_ok X G (c.fact 33 (f := .glo "_law_step_told") rfl), F⟩
  have D__law_step_right : Def0 K mg "_law_step_right" s_law_step_right := by
    obtain ⟨fd, F⟩ := c.def_ 34 (d := toA (dOf "_law_step_right" s_law_step_right)) rfl
    exact ⟨_, fd, He.glo_ok X G (c.fact 34 (f := .glo "_law_step_right") rfl), F⟩
  have D__law_bad_row : Def0 K mg "_law_bad_row" s_law_bad_row := by
    obtain ⟨fd, F⟩ := c.def_ 35 (d := toA (dOf "_law_bad_row" s_law_bad_row)) rfl
    exact ⟨_, fd, He.glo_ok X G (c.fact 35 (f := .glo "_law_bad_row") rfl), F⟩
  have D__law_row_fault : Def0 K mg "_law_row_fault" s_law_row_fault := by
    obtain ⟨fd, F⟩ := c.def_ 36 (d := toA (dOf "_law_row_fault" s_law_row_fault)) rfl
    exact ⟨_, fd, He.glo_ok X G (c.fact 36 (f := .glo "_law_row_fault") rfl), F⟩
  have D__law_creation_due : Def0 K mg "_law_creation_due" s_law_creation_due := by
    obtain ⟨fd, F⟩ := c.def_ 37 (d := toA (dOf "_law_creation_due" s_law_creation_due)) rfl
    exact ⟨_, fd, He.glo_ok X G (c.fact 37 (f := .glo "_law_creation_due") rfl), F⟩
  have D__law_creation : Def0 K mg "_law_creation" s_law_creation := by
    obtain ⟨fd, F⟩ := c.def_ 38 (d := toA (dOf "_law_creation" s_law_creation)) rfl
    exact ⟨_, fd, He.glo_ok X G (c.fact 38 (f := .glo "_law_creation") rfl), F⟩
  have D__law_creation_right : Def0 K mg "_law_creation_right" s_law_creation_right := by
    obtain ⟨fd, F⟩ := c.def_ 39 (d := toA (dOf "_law_creation_right" s_law_creation_right)) rfl
    exact ⟨_, fd, He.glo_ok X G (c.fact 39 (f := .glo "_law_creation_right") rfl), F⟩
  obtain ⟨fdL, F_law⟩ := c.def_ 40 (d := toA (dOf "law" s_law)) rfl
  have e := hfa.symm.trans (He.glo_ok X G (c.fact 40 (f := .glo "law") rfl))
  cases e
  have bnd := FunD.bindsA (ps := ["script"]) F_law fun _ _ _ _ _ _ us hl => match us, hl with | [_], _ => rfl
  have T0 : Bl mg := ⟨He.free_ok X G (c.fact 62 (f := .free "len") rfl), He.free_ok X G (c.fact 63 (f := .free "range") rfl), He.free_ok X G (c.fact 64 (f := .free "abs") rfl), He.free_ok X G (c.fact 65 (f := .free "int") rfl), He.free_ok X G (c.fact 66 (f := .free "max") rfl), He.free_ok X G (c.fact 67 (f := .free "all") rfl), He.free_ok X G (c.fact 68 (f := .free "isinstance") rfl), He.free_ok X G (c.fact 69 (f := .free "set") rfl), He.free_ok X G (c.fact 70 (f := .free "list") rfl), He.free_ok X G (c.fact 71 (f := .free "tuple") rfl), He.free_ok X G (c.fact 72 (f := .free "bool") rfl), He.free_ok X G (c.fact 73 (f := .free "str") rfl), He.free_ok X G (c.fact 74 (f := .free "enumerate") rfl), He.int_ok X G (c.fact 81 (f := .int "MOST_KINDS" 8) rfl), He.int_ok X G (c.fact 82 (f := .int "MOST_BRANCHES" 3) rfl), He.int_ok X G (c.fact 83 (f := .int "MOST_KNOTS" 2000) rfl), He.int_ok X G (c.fact 84 (f := .int "LONGEST_NAME" 8) rfl), He.str_ok X G (c.fact 86 (f := .str "LETTERS" "abcdefghijklmnopqrstuvwxyz") rfl)⟩
  have c_DIGITS : ∃ t, mg "DIGITS" = some (.str "0123456789" t) := He.str_ok X G (c.fact 87 (f := .str "DIGITS" "0123456789") rfl)
  have c_MOST_STATES : ∃ t, mg "MOST_STATES" = some (.int 40 t) := He.int_ok X G (c.fact 85 (f := .int "MOST_STATES" 40) rfl)
  have T1 : Bk mg := ⟨T0, He.free_ok X G (c.fact 78 (f := .free "zip") rfl), He.free_ok X G (c.fact 79 (f := .free "ValueError") rfl)⟩
  have b_super : mg "super" = none := He.free_ok X G (c.fact 75 (f := .free "super") rfl)
  have b_min : mg "min" = none := He.free_ok X G (c.fact 76 (f := .free "min") rfl)
  have b_sum : mg "sum" = none := He.free_ok X G (c.fact 77 (f := .free "sum") rfl)
  have b_max : mg "max" = none := He.free_ok X G (c.fact 66 (f := .free "max") rfl)
  have B : BedT K (He.ga K "Bed") := ⟨He.cls_ok (c.fact 42 (f := .cls "Bed") rfl), He.noat_ok (c.fact 44 (f := .noat "Bed" "rows") rfl), He.noat_ok (c.fact 45 (f := .noat "Bed" "kinds") rfl), He.noat_ok (c.fact 46 (f := .noat "Bed" "widths") rfl), He.noat_ok (c.fact 47 (f := .noat "Bed" "ranks") rfl)⟩
  have BR : RdT K (He.ga K "Reader") := ⟨He.cls_ok (c.fact 49 (f := .cls "Reader") rfl), He.noat_ok (c.fact 51 (f := .noat "Reader" "bed") rfl), He.noat_ok (c.fact 52 (f := .noat "Reader" "states") rfl), He.noat_ok (c.fact 53 (f := .noat "Reader" "cells") rfl), He.noat_ok (c.fact 54 (f := .noat "Reader" "marks") rfl), He.noat_ok (c.fact 55 (f := .noat "Reader" "otherwise") rfl)⟩
  obtain ⟨fd_init__, F_init__⟩ := c.def_ 41 (d := toA (dM "Bed" "__init__" "Bed.__init__" s_init__)) rfl
  obtain ⟨fd_branches, F_branches⟩ := c.def_ 42 (d := toA (dM "Bed" "branches" "Bed.branches" s_branches)) rfl
  obtain ⟨fd_Reader_init__, F_Reader_init__⟩ := c.def_ 43 (d := toA (dK "Reader" "__init__" "Reader.__init__" s_Reader_init__ [("otherwise", .int 0)])) rfl
  obtain ⟨fd_Reader_table, F_Reader_table⟩ := c.def_ 44 (d := toA (dM "Reader" "table" "Reader.table" s_Reader_table)) rfl
  obtain ⟨fd_Reader_step, F_Reader_step⟩ := c.def_ 45 (d := toA (dM "Reader" "step" "Reader.step" s_Reader_step)) rfl
  obtain ⟨fd_Reader_states_of, F_Reader_states_of⟩ := c.def_ 46 (d := toA (dM "Reader" "states_of" "Reader.states_of" s_Reader_states_of)) rfl
  obtain ⟨fd_Reader_state_of, F_Reader_state_of⟩ := c.def_ 47 (d := toA (dM "Reader" "state_of" "Reader.state_of" s_Reader_state_of)) rfl
  obtain ⟨fd_Reader_contains__, F_Reader_contains__⟩ := c.def_ 48 (d := toA (dM "Reader" "__contains__" "Reader.__contains__" s_Reader_contains__)) rfl
  obtain ⟨fd_read, F_read⟩ := c.def_ 49 (d := dR) rfl
  have gBed := He.glo_ok X G (c.fact 41 (f := .glo "Bed") rfl)
  have mkBed := He.mkr_ok (c.fact 43 (f := .mkr "Bed") rfl)
  have gReader := He.glo_ok X G (c.fact 48 (f := .glo "Reader") rfl)
  have mkReader := He.mkr_ok (c.fact 50 (f := .mkr "Reader") rfl)
  have mt_branches := He.meth_ok (c.fact 56 (f := .meth "Bed" "branches") rfl)
  have mt_table := He.meth_ok (c.fact 57 (f := .meth "Reader" "table") rfl)
  have mt_step := He.meth_ok (c.fact 58 (f := .meth "Reader" "step") rfl)
  have mt_states_of := He.meth_ok (c.fact 59 (f := .meth "Reader" "states_of") rfl)
  have mt_state_of := He.meth_ok (c.fact 60 (f := .meth "Reader" "state_of") rfl)
  have mt_contains := He.meth_ok (c.fact 61 (f := .meth "Reader" "__contains__") rfl)
  obtain ⟨ea0, eb0⟩ := Hx.x_of x1 x2 0 (d := xTooMany) rfl
  have FTooMany : Hx.XFacts TL.prog K xTooMany [zTooMany0, zTooMany1] := Hx.facts_of ea0 eb0 (fun z hz => by
    rcases List.mem_cons.mp hz with h | h
    · rw [h]; exact List.mem_cons_self
    · rw [List.mem_singleton.mp h]; exact List.mem_cons_of_mem _ List.mem_cons_self)
  have ZTooMany := Hx.zB_ok (List.all_eq_true.mp x3 "TooMany" (by decide +kernel))
  obtain ⟨ea1, eb1⟩ := Hx.x_of x1 x2 1 (d := xInvalidPlant) rfl
  have FInvalidPlant : Hx.XFacts TL.prog K xInvalidPlant [zInvalidPlant0] := Hx.facts_of ea1 eb1 (fun z hz => by rw [List.mem_singleton.mp hz]; exact List.mem_cons_self)
  have ZInvalidPlant := Hx.zB_ok (List.all_eq_true.mp x3 "InvalidPlant" (by decide +kernel))
  obtain ⟨ea2, eb2⟩ := Hx.x_of x1 x2 2 (d := xUnknownKind) rfl
  have FUnknownKind : Hx.XFacts TL.prog K xUnknownKind [zUnknownKind0] := Hx.facts_of ea2 eb2 (fun z hz => by rw [List.mem_singleton.mp hz]; exact List.mem_cons_self)
  have ZUnknownKind := Hx.zB_ok (List.all_eq_true.mp x3 "UnknownKind" (by decide +kernel))
  obtain ⟨ea3, eb3⟩ := Hx.x_of x1 x2 3 (d := xWrongBranches) rfl
  have FWrongBranches : Hx.XFacts TL.prog K xWrongBranches [zWrongBranches0, zWrongBranches1] := Hx.facts_of ea3 eb3 (fun z hz => by
    rcases List.mem_cons.mp hz with h | h
    · rw [h]; exact List.mem_cons_self
    · rw [List.mem_singleton.mp h]; exact List.mem_cons_of_mem _ List.mem_cons_self)
  have ZWrongBranches := Hx.zB_ok (List.all_eq_true.mp x3 "WrongBranches" (by decide +kernel))
  obtain ⟨ea4, eb4⟩ := Hx.x_of x1 x2 4 (d := xNoState) rfl
  have FNoState : Hx.XFacts TL.prog K xNoState [zNoState0] := Hx.facts_of ea4 eb4 (fun z hz => by rw [List.mem_singleton.mp hz]; exact List.mem_cons_self)
  have ZNoState := Hx.zB_ok (List.all_eq_true.mp x3 "NoState" (by decide +kernel))
  obtain ⟨ea5, eb5⟩ := Hx.x_of x1 x2 5 (d := xInvalidReader) rfl
  have FInvalidReader : Hx.XFacts TL.prog K xInvalidReader [zInvalidReader0] := Hx.facts_of ea5 eb5 (fun z hz => by rw [List.mem_singleton.mp hz]; exact List.mem_cons_self)
  have ZInvalidReader := Hx.zB_ok (List.all_eq_true.mp x3 "InvalidReader" (by decide +kernel))
  have gY := He.glo_ok X G (c.fact 80 (f := .glo "YardError") rfl)
  have x : XS TL.prog w K mg (AK K) := ⟨sup_TooMany X G b_super FTooMany, sup_InvalidPlant X G b_super FInvalidPlant, sup_UnknownKind X G b_super FUnknownKind, sup_WrongBranches X G b_super FWrongBranches⟩
  have xb : XBS TL.prog w K mg (BK K) := ⟨sup_TooManyS X G b_super FTooMany, sup_InvalidReader X G b_super FInvalidReader⟩
  have xn : PySem.SupX.SupCls TL.prog w K mg "NoState" (He.ga K "NoState") ["state"] nsP := sup_NoState X G b_super FNoState
  have kk : K5 K mg (AK K) (BK K) (He.ga K "NoState") (He.ga K "YardError") := ⟨gY, ⟨PySem.W.mg_of X G FTooMany.gl, ZTooMany.ex, ⟨FTooMany.xf, FTooMany.no, FTooMany.me⟩, ZTooMany.ky, ZTooMany.kv⟩, ⟨PySem.W.mg_of X G FInvalidPlant.gl, ZInvalidPlant.ex, ⟨FInvalidPlant.xf, FInvalidPlant.no, FInvalidPlant.me⟩, ZInvalidPlant.ky, ZInvalidPlant.kv⟩, ⟨PySem.W.mg_of X G FUnknownKind.gl, ZUnknownKind.ex, ⟨FUnknownKind.xf, FUnknownKind.no, FUnknownKind.me⟩, ZUnknownKind.ky, ZUnknownKind.kv⟩, ⟨PySem.W.mg_of X G FWrongBranches.gl, ZWrongBranches.ex, ⟨FWrongBranches.xf, FWrongBranches.no, FWrongBranches.me⟩, ZWrongBranches.ky, ZWrongBranches.kv⟩, ⟨PySem.W.mg_of X G FNoState.gl, ZNoState.ex, ⟨FNoState.xf, FNoState.no, FNoState.me⟩, ZNoState.ky, ZNoState.kv⟩, ⟨PySem.W.mg_of X G FInvalidReader.gl, ZInvalidReader.ex, ⟨FInvalidReader.xf, FInvalidReader.no, FInvalidReader.me⟩, ZInvalidReader.ky, ZInvalidReader.kv⟩, rfl, (ZTooMany.em "InvalidPlant" (by decide +kernel)).trans (by decide +kernel), (ZTooMany.em "InvalidReader" (by decide +kernel)).trans (by decide +kernel), (ZWrongBranches.em "UnknownKind" (by decide +kernel)).trans (by decide +kernel), (ZNoState.em "UnknownKind" (by decide +kernel)).trans (by decide +kernel), (ZNoState.em "WrongBranches" (by decide +kernel)).trans (by decide +kernel)⟩
  obtain ⟨hCR, hCM⟩ := Hx.cmB_ok (K := K) (p := ("Bed", "read")) (List.all_eq_true.mp cm _ (by unfold cmN; exact List.mem_cons_self))
  refine ⟨fdL, fun s v => bnd s [v] rfl, fun base _ _ _ => ?_⟩
  have c_all_letters := ok_all_letters (P := TL.prog) (w := w) (base := base) T0 D_all_letters
  have c_is_name := ok_is_name (P := TL.prog) (w := w) (base := base) T0 c_all_letters D_is_name
  have c_check_pairs := ok_check_pairs (P := TL.prog) (w := w) (base := base) T0 c_is_name D_check_pairs
  have c_Bed : BedOk TL.prog w K mg base (He.ga K "Bed") 5 := by
    refine ⟨gBed, _, mkBed, ?_⟩
    obtain ⟨oc, od, dV, kV, doc, pm, an, cdv, ct, osl, rfl, lk, hcd, hdv, _⟩ := F_init__.ex
    have hd : dV = .none := by
      rcases hdv with ⟨_, h⟩ | h
      · exact h
      · exact absurd rfl h.1
    subst hd
    refine (StX.fn_star (ps := ["self"]) (pv := "kinds") lk hcd sc_init__ StX.cxUp_none (StX.bind_star1 (B := fun us => bindArgs (PySem.W.fnOf "__init__" "Bed.__init__" (defArgs s_init__) (defBody s_init__) (defScope s_init__) .none kV doc pm an cdv ct) ⟨us, []⟩) (fun _ => rfl) (fun _ _ _ => rfl)) (sp := spBedI (He.ga K "Bed")) (k := 3) fun A outer s H vs Q E hr hsp => ?_).mono (by decide)
    obtain ⟨t, a, b⟩ := body_bedI T0 B c_check_pairs hr hsp
    exact ⟨t, a.nox, b⟩
  obtain ⟨_, fIB, mkB, FIB⟩ := c_Bed
  have c_read := ok_readC (P := TL.prog) (w := w) (base := base) T0 c_DIGITS mkB FIB c_all_letters gBed hCR hCM F_read
  have c_law_box := ok_box7 (P := TL.prog) (w := w) (base := base) T0 b_sum D__law_box
  have c_law_take := ok_take (P := TL.prog) (w := w) (base := base) T0 D__law_take
  have c_law_bed := ok_bed6 (P := TL.prog) (w := w) (base := base) T0 b_min c_law_take D__law_bed
  have c_law_text := ok_text6 (P := TL.prog) (w := w) (base := base) T0 D__law_text
  have c_check_states := ok_states52 (P := TL.prog) (w := w) (base := base) T0 c_MOST_STATES D_check_states
  have c_are_states := ok_are52 (P := TL.prog) (w := w) (base := base) T0 D_are_states
  have c_check_marks := ok_marks52 (P := TL.prog) (w := w) (base := base) T0 D_check_marks
  have c_rows_by_kind := ok_bykind52 (P := TL.prog) (w := w) (base := base) T0 B c_are_states D_rows_by_kind
  have c_Reader := ok_rdC5 (P := TL.prog) (w := w) (base := base) T0 B BR c_check_states c_are_states c_check_marks c_rows_by_kind gReader F_Reader_init__ mkReader
  have c_are_statesX := ok_areX (P := TL.prog) (w := w) (base := base) T0 D_are_states
  have c_check_statesX := ok_statesX (P := TL.prog) (w := w) (base := base) (A := BK K) T0 c_MOST_STATES xb D_check_states
  have c_check_marksX := ok_marksX (P := TL.prog) (w := w) (base := base) (A := BK K) T0 xb D_check_marks
  have c_rows_by_kindX := ok_bykindX (P := TL.prog) (w := w) (base := base) (A := BK K) T0 B xb c_are_statesX D_rows_by_kind
  have c_ReaderX := ok_rdCX (P := TL.prog) (w := w) (base := base) T0 B BR xb c_check_statesX c_are_statesX c_check_marksX c_rows_by_kindX gReader F_Reader_init__ mkReader
  have c_check_size := ok_check_size (P := TL.prog) (w := w) (base := base) T1 x D_check_size
  have c_fault_place := ok_fault_place (P := TL.prog) (w := w) (base := base) T1 B D_fault_place
  have c_check_plant := ok_check_plant (P := TL.prog) (w := w) (base := base) T1 x c_check_size c_fault_place D_check_plant
  have c_branches := ok_branches (P := TL.prog) (w := w) (base := base) (y := "branches") x B F_branches mt_branches
  have c_step := ok_stepM (P := TL.prog) (w := w) (base := base) T1 B BR x xn c_branches c_are_statesX F_Reader_step mt_step
  have c_states_of := ok_stsM (P := TL.prog) (w := w) (base := base) T1 B BR c_check_plant F_Reader_states_of mt_states_of
  have c_state_of := ok_stM (P := TL.prog) (w := w) (base := base) T1 BR c_states_of F_Reader_state_of mt_state_of
  have c_contains := ok_hasM (P := TL.prog) (w := w) (base := base) T1 BR c_state_of F_Reader_contains__ mt_contains
  have c_law_tuples := ok_tuples6 (P := TL.prog) (w := w) (base := base) T0 D__law_tuples
  have c_law_marks := ok_lmarks6 (P := TL.prog) (w := w) (base := base) T0 c_law_take D__law_marks
  have c_law_reader := ok_reader6 (P := TL.prog) (w := w) (base := base) T0 b_min c_law_take c_law_tuples c_law_marks D__law_reader
  have c_law_long := ok_long6 (P := TL.prog) (w := w) (base := base) T0 c_law_take c_law_tuples D__law_long
  have c_rows_from := ok_rows_from6 (P := TL.prog) (w := w) (base := base) T0 D_rows_from
  have c_all_rows := ok_all_rows6 (P := TL.prog) (w := w) (base := base) T0 c_rows_from D_all_rows
  have c_law_same := ok_sam6 (P := TL.prog) (w := w) (base := base) T0 D__law_same 4
  have c_law_sizes := ok_sizes6 (P := TL.prog) (w := w) (base := base) (mg := mg) D__law_sizes
  have c_law_made := ok_made6 (P := TL.prog) (w := w) (base := base) T0 c_read c_Reader D__law_made
  have c_table := ok_table (P := TL.prog) (w := w) (base := base) T0 B BR c_all_rows F_Reader_table mt_table
  have c_law_kept := ok_kept6 (P := TL.prog) (w := w) (base := base) T0 B BR c_law_tuples c_law_same c_table D__law_kept
  have c_law_fault := ok_faultK (P := TL.prog) (w := w) (base := base) T0 D__law_fault
  have c_law_row_states := ok_rowstK (P := TL.prog) (w := w) (base := base) T0 D__law_row_states
  have c_law_stranger := ok_stranger (P := TL.prog) (w := w) (base := base) T0 c_law_take D__law_stranger
  have c_law_plant := ok_plantK (P := TL.prog) (w := w) (base := base) T0 c_law_take D__law_plant
  have c_law_tall := ok_tallK (P := TL.prog) (w := w) (base := base) T0 c_law_take D__law_tall
  have c_law_bent_row := ok_bentK (P := TL.prog) (w := w) (base := base) T0 c_law_take c_law_stranger D__law_bent_row
  have c_law_told := ok_toldK (P := TL.prog) (w := w) (base := base) T1 BR kk c_state_of c_states_of c_contains D__law_told
  have c_law_row_right := ok_rowRight (P := TL.prog) (w := w) (base := base) T0 c_law_fault c_law_row_states c_law_same c_law_told D__law_row_right
  have c_law_steps_right := ok_stepsRight (P := TL.prog) (w := w) (base := base) T0 BR c_law_tuples c_law_same c_step D__law_steps_right
  have c_law_step_told := ok_stepTold (P := TL.prog) (w := w) (base := base) T1 BR kk c_step D__law_step_told
  have c_law_step_right := ok_stepRight (P := TL.prog) (w := w) (base := base) T0 b_max c_law_take c_law_stranger c_law_same c_law_step_told D__law_step_right
  have c_law_bad_row := ok_badRow (P := TL.prog) (w := w) (base := base) T0 c_law_take c_law_stranger D__law_bad_row
  have c_law_row_fault := ok_rowFault (P := TL.prog) (w := w) (base := base) T0 D__law_row_fault
  have c_law_creation_due := ok_creDue (P := TL.prog) (w := w) (base := base) T0 c_law_row_fault D__law_creation_due
  have c_law_creation := ok_creation (P := TL.prog) (w := w) (base := base) T0 BR kk c_read c_ReaderX D__law_creation
  have c_law_creation_right := ok_creRight (P := TL.prog) (w := w) (base := base) T0 c_law_take c_law_bad_row c_law_sizes c_law_text c_law_same c_law_creation_due c_law_creation D__law_creation_right
  exact ok_law (P := TL.prog) (w := w) (base := base) T0 c_law_box c_law_take c_law_bed c_law_text c_law_sizes c_law_reader c_law_long c_law_made c_law_kept c_law_steps_right c_law_plant c_law_bent_row c_law_tall c_law_row_right c_law_step_right c_law_creation_right F_law
end Sh
end
set_option Elab.async false
set_option linter.all false
set_option maxRecDepth 100000
set_option maxHeartbeats 4000000
open PySem PySem.W PySem.Calls PyProof.Rows
theorem PySem.Challenge.cw_shearyard_k05_readers_follow_their_rows_holds : PySem.Challenge.rw_shearyard_k05_readers_follow_their_rows.Holds := by
  w_on; o_law
  refine HandSHeadRun.head_any (r := OpenLaw.row PySem.Challenge.rw_shearyard_k05_readers_follow_their_rows) (q := view (OpenLaw.row PySem.Challenge.rw_shearyard_k05_readers_follow_their_rows).prog [67]) (H := Sh.hk) (ob := Sh.ob) (M := 9000) (loose := Sh.names) (d := HandSHeadRun.topDef (OpenLaw.row PySem.Challenge.rw_shearyard_k05_readers_follow_their_rows).prog 67) (kwd := []) Sh.ob_eq
    (by kernel_rfl) (fun s => by kernel_rfl) Sh.run (by kernel_rfl) (by kernel_rfl) (by kernel_rfl) (by rfl) (by first | assumption | decide +kernel) (by decide +kernel) ⟨rfl, rfl, rfl, rfl, rfl, by decide +kernel⟩ ?hw ?hc
  case hw => w_witness2
  case hc =>
    refine LamX.walk_ofTsE (l := PySem.Challenge.rw_shearyard_k05_readers_follow_their_rows) (n := 63) (k := 11) (x := "script") (CX := fun _ => L2.CX0) rfl (by decide) (by kernel_rfl) ⟨rfl, by decide, by decide⟩ ?F (fun _ _ _ _ _ z => z)
    intro w mg fa h Y G hmg0
    obtain ⟨K, KX, c, x1, x2, x3, tw, cm⟩ := Y
    have hmg : mg ("law" : PySem.Str) = some (.ref fa) := by
      have e : (HandSHeadRun.topDef (OpenLaw.row PySem.Challenge.rw_shearyard_k05_readers_follow_their_rows).prog 67).name = ("law" : PySem.Str) := by kernel_rfl
      rw [← e]
      exact hmg0
    obtain ⟨fd, hb, hF⟩ := Sh.facts (w := w) KX G hmg c x1 x2 x3 tw cm
    have mem : ∀ p ∈ Sh.tbN.map (fun x => He.cT K (x, none)), ∃ d ∈ Sh.tbF, He.cT K d = p := fun p hp => by
      obtain ⟨x, hx, rfl⟩ := List.mem_map.mp hp
      exact ⟨(x, none), List.mem_map_of_mem (f := fun x => ((x, none) : He.Defn)) hx, rfl⟩
    refine ⟨K, KX, fd, Sh.tbN.map (fun x => He.cT K (x, none)), Sh.spLawK K, fun p hp => ?_, fun p hp => ?_, fun p hp => ?_, hb, fun H a ns hn _ hT hS => ⟨a, ns, rfl, hS, hn, fun _ => rfl⟩, hF⟩
    · obtain ⟨d, hd, rfl⟩ := mem p hp
      exact tw.empty d hd
    · obtain ⟨d, hd, rfl⟩ := mem p hp
      exact tw.out d hd
    · obtain ⟨d, hd, rfl⟩ := mem p hp
      exact PySem.W.codeHd_of_K KX (tw.hd d hd)
