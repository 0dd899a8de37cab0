import PyProof.Rows.All
import Wide.All
import OpenK.AllK
import Wide.FinOn
import HandS.ForMost
import HandS.Exc
import HandS.ExcInit
import HandS.Star
import HandS.TupAny
import HandS.TupMul
import HandS.SetKeys
import HandS.DictComp
import HandS.IsInst
import HandS.Defaults
import HandS.WordsExc
import KE.GoesEnum
import KE.KExcSuper
import HandS.Evl
import HandS.Codes
import HandS.ReCall
import HandS.TryMany
import HandS.ExcOwn
import HandS.ExcField
import HandS.HeadHook1
import HandS.HeadHook2
import HandS.ExcIs
import KE.KExcIs
import PyProof.EqKinds
import KE.KStateDown
import HandS.Ends
import HandS.Head0
import HandS.Head1
import HandS.Head2
import HandS.HeadEnd
import HandS.Walk
import KE.GoesZip
import HandS.Zip
import HandS.Flow
import KE.KEqSeq
import HandS.Deep
import HandS.TupSets
import HandS.Dict
import HandS.HotCalls
import HandS.MakeKw
import HandS.Rev
import KE.KRevIter
import OpenK.KOps
import HandS.TupLe
import HandS.Style
import PyProof.ListNew
import HandS.Comp
import HandS.MakeKwOnly
import HandS.TryOnly
import PyProof.FString
import PyProof.FString4
import PyProof.FitsInt
import PyProof.StrLawsRepr
import PySem.Challenge.RW_shearyard_k52_cheapest_change
section
set_option Elab.async false
set_option linter.all false
set_option maxRecDepth 100000
set_option maxHeartbeats 4000000
namespace L2
open PySem PySem.Spec PyProof.Rows
section
variable {X : Cx}
theorem tuple_mul0 (l : Addr) (items : Array Value) (n : Nat) (dd : Option Addr) (sl : Array (Option Value)) (x : Int) (u : Tok) (c0 : (decide (x < -(2 ^ 63)) || decide (x ≥ 2 ^ 63)) = false) (c1 : (items.isEmpty || x == 1) = false) (c2 : (decide (x ≤ 0) || items.isEmpty) = true) :
    Meets (Builtin.«tuple.__mul__» ⟨[.ref l, .int x u], []⟩) (fun _ R s => s.heap.get? l = some { cls := .type "tuple", dict := dd, data := .seq items n, slots := sl } ∧
      R (.ok (.ret (Value.ref s.heap.objs.size))) { s with heap := s.heap.push { cls := Value.type "tuple", data := Data.seq #[] }, toks := s.toks }) :=
  .of_wp fun prog w A R s h => by
    obtain ⟨hp, g, d, tk, os⟩ := s
    obtain ⟨hl, h⟩ := h
    have f1 := AutoSeq1.idx_int
    wp_walk using wpAny_loadPart' hl
    repeat (first
      | (refine wpAny_ite_false (decide_eq_false (by rw [c0]; exact Bool.false_ne_true)) ?_; wp_walk using wpAny_loadPart' hl)
      | (refine wpAny_ite_false (decide_eq_false (by rw [c1]; exact Bool.false_ne_true)) ?_; wp_walk using wpAny_loadPart' hl)
      | (refine wpAny_ite_true (decide_eq_true c2) ?_; wp_walk using wpAny_loadPart' hl))
    exact ⟨_, rfl, h⟩
theorem tuple_mul1 (l : Addr) (items : Array Value) (n : Nat) (sl : Array (Option Value)) (dd : Option Addr) (x : Int) (u : Tok) (c0 : (decide (x < -(2 ^ 63)) || decide (x ≥ 2 ^ 63)) = false) (c1 : (items.isEmpty || x == 1) = true) :
    Meets (Builtin.«tuple.__mul__» ⟨[.ref l, .int x u], []⟩) (fun _ R s => s.heap.get? l = some { cls := .type "tuple", dict := dd, data := .seq items n, slots := sl } ∧ R (.ok (.ret (Value.ref l))) s) :=
  .of_wp fun prog w A R s h => by
    obtain ⟨hp, g, d, tk, os⟩ := s
    obtain ⟨hl, h⟩ := h
    have f1 := AutoSeq1.idx_int
    wp_walk using wpAny_loadPart' hl
    repeat (first
      | (refine wpAny_ite_false (decide_eq_false (by rw [c0]; exact Bool.false_ne_true)) ?_; wp_walk using wpAny_loadPart' hl)
      | (refine wpAny_ite_true (decide_eq_true c1) ?_; wp_walk using wpAny_loadPart' hl))
    exact ⟨_, rfl, h⟩
def rRepG (K : PySem.W.Frag) : R2 := fun x y H Q => ∃ l k xs, x = .ref l ∧ y = .int k ∧ SqT K H l xs ∧ xs ≠ [] ∧ 0 ≤ k ∧ k ≤ 4000 ∧ xs.length ≤ 100 ∧ (k = 1 → Q (.ref l) H) ∧ (k ≠ 1 → ∀ p, H p = none → Q (.ref p) (upd H p (.tup (List.replicate k.toNat xs).flatten)))
theorem op_repG : OpR X (binaryOp .Mult) (rRepG X.K) := by
  intro pins s σ H x y v u Q I rx ry h
  obtain ⟨l, k, xs, rfl, rfl, hT, hne, h1, h2, hz, qs, qn⟩ := h
  cases rx
  obtain ⟨t, rfl⟩ := ry
  obtain ⟨its, r, ⟨⟨cls, dd, data, sl⟩, ho, hc, n, hd⟩, hs⟩ := I.tuple hT
  simp only at hc hd
  subst hc hd
  have hle : its.length = xs.length := r.length.symm
  have hn : its ≠ [] := fun e => hne (by
    rw [e] at hle
    exact List.eq_nil_of_length_eq_zero hle.symm)
  have hi : its.toArray.isEmpty = false := by
    cases its with
    | nil => exact absurd rfl hn
    | cons a b => rfl
  have hsz0 : its.toArray.size = xs.length := by rw [List.size_toArray, hle]
  have c0 : (decide (k < -(2 ^ 63)) || decide (k ≥ 2 ^ 63)) = false := by
    rw [decide_eq_false (by omega), decide_eq_false (by omega)] <;> rfl
  by_cases e1 : k = 1
  · have c1 : (its.toArray.isEmpty || k == 1) = true := by
      rw [hi, Bool.false_or]
      exact beq_iff_eq.mpr e1
    refine wpAny_binaryOp_repeat_ref (T := "tuple") (U := "int") (by decide) ⟨_, ho, rfl⟩ (fun s' => typeIs_int s' k t) noFill_tuple_mul F.fills_int_mul F.slot_int_rmul repeat_tuple F.slot_int_index.lookup
      (call_meets F.slot_int_rmul (typeIs_int s k t) F.entry_int_rmul (F.args_int_rmul_2 _ _) (int_rmul_tuple k t l its.toArray n dd sl)
        ⟨ho, rfl, ⟨_, ho, rfl⟩, call_meets F.slot_tuple_mul ⟨_, ho, rfl⟩ F.entry_tuple_mul (F.args_tuple_mul_2 _ _) (tuple_mul1 l its.toArray n sl dd k t c0 c1) ⟨ho, ?_⟩⟩)
    exact ⟨.ref l, H, I, rfl, qs e1⟩
  · have c1 : (its.toArray.isEmpty || k == 1) = false := by
      rw [hi, Bool.false_or]
      exact beq_eq_false_iff_ne.mpr e1
    by_cases e0 : k = 0
    · subst e0
      refine wpAny_binaryOp_repeat_ref (T := "tuple") (U := "int") (by decide) ⟨_, ho, rfl⟩ (fun s' => typeIs_int s' 0 t) noFill_tuple_mul F.fills_int_mul F.slot_int_rmul repeat_tuple F.slot_int_index.lookup
        (call_meets F.slot_int_rmul (typeIs_int s 0 t) F.entry_int_rmul (F.args_int_rmul_2 _ _) (int_rmul_tuple 0 t l its.toArray n dd sl)
          ⟨ho, rfl, ⟨_, ho, rfl⟩, call_meets F.slot_tuple_mul ⟨_, ho, rfl⟩ F.entry_tuple_mul (F.args_tuple_mul_2 _ _) (tuple_mul0 l its.toArray n dd sl 0 t c0 c1 rfl) ⟨ho, ?_⟩⟩)
      refine ⟨.ref s.heap.objs.size, _, I.laid (t' := s.toks) (o := .tup (List.replicate (0 : Int).toNat xs).flatten) (fun b ob q => Heap.get?_push_of_some _ q) (Nat.le_refl _) ?_, rfl, qn (by decide) _ (I.hok.fresh (Nat.le_refl _))⟩
      exact ⟨by rw [sizeLine_eq]; exact Nat.zero_le _, [], .nil, IsTup.new _ _⟩
    · have hm : ((its.toArray.size : Nat) : Int) * k ≤ 400000 := by
        rw [hsz0]
        have a1 : ((xs.length : Nat) : Int) * k ≤ 100 * k := Int.mul_le_mul_of_nonneg_right (by omega) (by omega)
        omega
      have flen : (List.replicate k.toNat its).flatten.length ≤ sizeLine := by
        rw [PyProof.Rows.lm_len_rep_flat, hle, sizeLine_eq]
        have a1 : k.toNat * xs.length ≤ 4000 * 100 := Nat.mul_le_mul (by omega) hz
        omega
      have c2 : (decide (k ≤ 0) || its.toArray.isEmpty) = false := by
        rw [hi, Bool.or_false]
        exact decide_eq_false (by omega)
      have c4 : Builtin.Tuple.tupleTooMany (((its.toArray.size : Nat) : Int) * k) = false := by
        unfold Builtin.Tuple.tupleTooMany
        rw [sizeLine_eq]
        exact decide_eq_false (by omega)
      refine wpAny_binaryOp_repeat_ref (T := "tuple") (U := "int") (by decide) ⟨_, ho, rfl⟩ (fun s' => typeIs_int s' k t) noFill_tuple_mul F.fills_int_mul F.slot_int_rmul repeat_tuple F.slot_int_index.lookup
        (call_meets F.slot_int_rmul (typeIs_int s k t) F.entry_int_rmul (F.args_int_rmul_2 _ _) (int_rmul_tuple k t l its.toArray n dd sl)
          ⟨ho, rfl, ⟨_, ho, rfl⟩, call_meets F.slot_tuple_mul ⟨_, ho, rfl⟩ F.entry_tuple_mul (F.args_tuple_mul_2 _ _) (tuple_mulW l its.toArray n dd sl k t c0 c1 c2 (by omega) c4 (by rw [size_rep, List.size_toArray]; exact flen)) ⟨ho, ?_⟩⟩)
      rw [size_rep]
      refine ⟨.ref s.heap.objs.size, _, I.laid (t' := s.toks) (o := .tup (List.replicate k.toNat xs).flatten) (fun b ob q => Heap.get?_push_of_some _ q) (Nat.le_refl _) ?_, rfl, qn e1 _ (I.hok.fresh (Nat.le_refl _))⟩
      exact ⟨by rw [PyProof.Rows.lm_len_rep_flat, sizeLine_eq]; have a1 : k.toNat * xs.length ≤ 4000 * 100 := Nat.mul_le_mul (by omega) hz; omega, _, r.rep k.toNat, IsTup.new _ _⟩

def tCallR (sp : Sp) (E : XK) (t : TA) : TE := fun σ H Q => t σ H fun vs H1 => sp vs H1 Q E
theorem pe_callR {CX : CXT} {k : Nat} {f : Addr} {x : Str} {sp : Sp} {E : XK} {e : Expr} {es : List Expr} {t : TA} {p pos : Pos} (F : FnR X.prog X.w X.K X.mg X.base CX k f sp) (hr : Room k X.A) (hk : PySem.W.keepIn X.K (.ref f) = true) (hm : X.mg x = some (.ref f)) (hx : Passes CX X E) (ha : PA X (e :: es) t)
    (hg : Gl X x) (hd : (x == ("__debug__" : Str)) = false)
    (he : starEach (e :: es) X.env = (false, eval e X.env) :: starEach es X.env) (hpl : (backTo pos (starEach es X.env)).any (·.1) = false) :
    PE X (.Call (.Name x p) (e :: es) [] pos) (tCallR sp E t) := by
  refine ⟨fun pins s σ H Q I h => ?_⟩
  refine wpAny_Call_Name_kw (ld_glob I hg hm ?_ hd)
  refine PySem.W.callWith_K (h₀ := X.base) I.ok.mod.kin hk (thn (ha.run pos pins s σ H _ I h) fun us s1 ⟨vs, H1, I1, r, q⟩ => ⟨I1.kIn, ?_⟩) he hpl
  exact wpAny_call (run_fnR F hr hx I1 r q)
end
end L2
namespace Sh
open PySem PySem.Spec PyProof.Rows L2
def DefOk (P : Program) (w : World) (K : PySem.W.Frag) (mg : Str → Option Value) (base : Heap) (CX : CXT) (k : Nat) (x : Str) (sp : Sp) : Prop :=
  ∃ f, mg x = some (.ref f) ∧ PySem.W.keepIn K (.ref f) = true ∧ FnR P w K mg base CX k f sp
/-- where a def stands -/
def Def0 (K : PySem.W.Frag) (mg : Str → Option Value) (x : Str) (st : Stmt) : Prop := ∃ f fd, mg x = some (.ref f) ∧ FunD K x x (defArgs st) (defBody st) (defScope st) [] [] f fd
section
variable {P : Program} {w : World} {K : PySem.W.Frag} {mg : Str → Option Value} {base : Heap} {k j : Nat} {x : Str} {sp : Sp} {st : Stmt}
theorem DefOk.mono {CX : CXT} (D : DefOk P w K mg base CX j x sp) (h : j ≤ k) : DefOk P w K mg base CX k x sp := by
  obtain ⟨f, a, b, c⟩ := D
  exact ⟨f, a, b, c.mono h⟩
theorem DefOk.imp {CX : CXT} {sp' : Sp} (D : DefOk P w K mg base CX k x sp) (h : ∀ vs H Q E, sp' vs H Q E → sp vs H Q E) : DefOk P w K mg base CX k x sp' := by
  obtain ⟨f, a, b, c⟩ := D
  exact ⟨f, a, b, c.imp h⟩
theorem pe_d {X : Cx} {CX : CXT} {E : XK} {e : Expr} {es : List Expr} {t : TA} {p pos : Pos} (D : DefOk X.prog X.w X.K X.mg X.base CX k x sp) (hr : Room k X.A) (hx : Passes CX X E) (ha : PA X (e :: es) t)
    (hg : Gl X x := by rfl) (hd : (x == ("__debug__" : Str)) = false := by decide)
    (he : starEach (e :: es) X.env = (false, eval e X.env) :: starEach es X.env := by rfl) (hpl : (backTo pos (starEach es X.env)).any (·.1) = false := by rfl) :
    PE X (.Call (.Name x p) (e :: es) [] pos) (tCallR sp E t) := by
  obtain ⟨f, a, b, c⟩ := D
  exact pe_callR c hr b a hx ha hg hd he hpl
/-- a def without defaults that raises nothing -/
theorem Def0.ok {N ps : List Str} (D : Def0 K mg x st) (S : FnScope N ps (defScope st)) (len : ∀ vs H Q E, sp vs H Q E → vs.length = ps.length)
    (hb : ∀ (kV doc pm : Value) (an : Option Addr) (cdv ct : Value) (us : List Value), us.length = ps.length → bindArgs (PySem.W.fnOf x x (defArgs st) (defBody st) (defScope st) .none kV doc pm an cdv ct) ⟨us, []⟩ = pure (ps.zip us))
    (hbody : ∀ (f : Addr) (cdv : Value) (A : Around) (outer : List Env) (s : Shared) (H : Hp) (vs : List V) (Q : VK) (E : XK), Room k (A.deeper (envOfC x (defScope st) s.heap.objs.size f cdv)) → sp vs H Q E →
      ∃ t, PSs (cxOf CX0 P w K mg base N x (defScope st) f cdv A outer s H E).nox (defBody st) t ∧ t { nx := fun _ H' => Q .non H', rt := Q } (start N vs) H) : DefOk P w K mg base CX0 (k + 1) x sp := by
  obtain ⟨f, fd, hm, F⟩ := D
  have G : FnOk P w K mg base CX0 (k + 1) f fd ps sp := F.ok S len fun cdv A outer s H vs Q E hr h => by
    obtain ⟨t, a, b⟩ := hbody f cdv A outer s H vs Q E hr h
    exact ⟨t, a.nox, b⟩
  have B : Binds K fd ps [] := F.bindsN hb
  refine ⟨f, hm, F.kp, fun A outer s H us vs Q E hr e0 r hs => G.raw B .nil A outer s H us vs Q E hr e0 r (by show sp (vs ++ []) H Q E; rw [List.append_nil]; exact hs)⟩
/-- a def without defaults that may raise -/
theorem Def0.okX {N ps : List Str} (D : Def0 K mg x st) (S : FnScope N ps (defScope st)) (len : ∀ vs H Q E, sp vs H Q E → vs.length = ps.length)
    (hb : ∀ (kV doc pm : Value) (an : Option Addr) (cdv ct : Value) (us : List Value), us.length = ps.length → bindArgs (PySem.W.fnOf x x (defArgs st) (defBody st) (defScope st) .none kV doc pm an cdv ct) ⟨us, []⟩ = pure (ps.zip us))
    (hbody : ∀ (f : Addr) (cdv : Value) (A : Around) (outer : List Env) (s : Shared) (H : Hp) (vs : List V) (Q : VK) (E : XK), Room k (A.deeper (envOfC x (defScope st) s.heap.objs.size f cdv)) → sp vs H Q E →
      ∃ t, PSs (cxOf (L2.CX P w) P w K mg base N x (defScope st) f cdv A outer s H E) (defBody st) t ∧ t { nx := fun _ H' => Q .non H', rt := Q } (start N vs) H) : DefOk P w K mg base (L2.CX P w) (k + 1) x sp := by
  obtain ⟨f, fd, hm, F⟩ := D
  have G : FnOk P w K mg base (L2.CX P w) (k + 1) f fd ps sp := F.ok S len fun cdv A outer s H vs Q E hr h => by
    obtain ⟨t, a, b⟩ := hbody f cdv A outer s H vs Q E hr h
    exact ⟨t, a, b⟩
  have B : Binds K fd ps [] := F.bindsN hb
  refine ⟨f, hm, F.kp, fun A outer s H us vs Q E hr e0 r hs => G.raw B .nil A outer s H us vs Q E hr e0 r (by show sp (vs ++ []) H Q E; rw [List.append_nil]; exact hs)⟩
end
end Sh
end
section
set_option Elab.async false
set_option linter.all false
set_option maxRecDepth 100000
set_option maxHeartbeats 2000000
namespace PySem
theorem meets_enum_oneB {v : Value} {o : Obj} {H : Heap → Prop} (B : Begins v o H) :
    Meets (Builtin.«enumerate.__new__» ⟨[.type "enumerate", v], []⟩) (fun _ R s => H s.heap ∧
      R (.ok (.ret (.ref (s.heap.push o).objs.size))) { s with heap := (s.heap.push o).push { cls := .type "enumerate", data := .fields #[.none, .bool false, .ref s.heap.objs.size, rawInt 0, .none, .none] } }) :=
  .of_wp fun prog w A R s hh => by
    obtain ⟨hp, g, d, tk, os⟩ := s
    obtain ⟨hb, hr⟩ := hh
    have hsub := sub_enumerate
    have begun : ∀ {A' : Around} {E : Value → Shared → Prop} {Q : Value → Shared → Prop}, Q (.ref hp.objs.size) ⟨hp.push o, g, d, tk, os⟩ → wpAny (model prog w) A' (pyIter v) Q E ⟨hp, g, d, tk, os⟩ :=
      fun q => B.iter prog w _ _ ⟨hp, g, d, tk, os⟩ _ hb q
    wp_walk using begun
    refine wpAny_stack_any fun st => wpAny_pure ?_
    split
    · rename_i c _ _ _ _ _
      cases (c == Value.type "enumerate")
      all_goals
        wp_walk using begun
        exact ⟨_, rfl, hr⟩
    · wp_walk using begun
      exact ⟨_, rfl, hr⟩
section
variable {prog : Program} {w : World} {A : Around} {E : Value → Shared → Prop} {s : Shared}
theorem enum_begins1 {v : Value} {o : Obj} {H : Heap → Prop} {Q : Value → Shared → Prop} (B : Begins v o H) (h1 : H s.heap)
    (h : ∀ h', IsEnum h' (s.heap.objs.size + 1) s.heap.objs.size 0 .none → h'.get? s.heap.objs.size = some o → h'.objs.size = s.heap.objs.size + 2 →
      (∀ b o, s.heap.get? b = some o → h'.get? b = some o) → Q (.ref (s.heap.objs.size + 1)) { s with heap := h' }) :
    wpAny (model prog w) A (call (.type "enumerate") [v]) Q E s := by
  refine callType_new F.called_enumerate (by decide) (F.typeCall_enumerate_1 _) (F.newCall_enumerate_1 _) (fun obj => F.args_object_init_2 obj _) F.entry_enumerate_new (meets_enum_oneB B) ⟨h1, ?_⟩
  have hz : (s.heap.push o).objs.size = s.heap.objs.size + 1 := Heap.size_push ..
  show _ ∧ _
  rw [hz]
  have he : IsEnum ((s.heap.push o).push { cls := .type "enumerate", data := .fields #[.none, .bool false, .ref s.heap.objs.size, rawInt 0, .none, .none] }) (s.heap.objs.size + 1) s.heap.objs.size 0 .none := by
    have q := Heap.get?_push_size (s.heap.push o) (o := { cls := .type "enumerate", data := .fields #[.none, .bool false, .ref s.heap.objs.size, rawInt 0, .none, .none] }) rfl
    rw [hz] at q
    exact q
  exact ⟨⟨_, he, rfl⟩, h _ he (Heap.get?_push_of_some _ (Heap.get?_push_size _ B.free)) (by rw [Heap.size_push, hz]) fun b o x => Heap.get?_push_of_some _ (Heap.get?_push_of_some _ x)⟩
theorem enum_endT {e it l : Addr} {i : Nat} {items : Array Value} {c : Int} {old : Value} {Q : Option Value → Shared → Prop} (hh : A.in1.handled = none)
    (he : IsEnum s.heap e it c old) (hit : s.heap.IsTupleIter it l i) (hl : s.heap.IsTuple l items) (hx : items[i]? = none)
    (hQ : ∀ h', Heap.ExtBut it s.heap h' → Q none { s with heap := h' }) : wpAny (model prog w) A (pyNext (.ref e)) Q E s := by
  have ht : s.TypeIs (.ref e) "enumerate" := ⟨_, he, rfl⟩
  unfold pyNext
  refine wpAny_bind (wpAny_attempt (wpAny_callSpecial?_slot (name := Str.ofString "__next__") ht F.slot_enumerate_next
    (wpAny_call_entry F.slot_enumerate_next ht F.entry_enumerate_next ?_ (F.args_enumerate_next_1 _))))
  show wpAny _ _ (field (.ref e) 2 >>= _) _ _ _
  refine wpAny_bind (wpAny_field he rfl (x := .ref it) rfl (wpAny_bind (wpAny_nextOf_tuple_end hh hit hl hx fun h' x he' hx' => ?_)))
  obtain ⟨o, ho, hc⟩ := hx'
  refine wpAny_bind (wpAny_isInstance (T := "StopIteration") (b := true) ⟨o, ho, hc⟩ isSubtype_stop ?_)
  exact wpAny_pure (hQ _ he')
end
end PySem
namespace L2
open PySem PySem.Spec PyProof.Rows
/-- the tuple at a as it stands at each turn, each item in a new pair -/
def IteT (K : PySem.W.Frag) (a : Addr) : It :=
  ⟨fun i H => ∃ (xs : List V) (x : V), SqT K H a xs ∧ xs[i]? = some x, fun i H v H' => ∃ T x, v = .ref T ∧ H T = none ∧ H' = upd H T (.tup [.int (i : Nat), x]) ∧ ∀ xs, SqT K H a xs → xs[i]? = some x, fun i H => ∃ xs : List V, SqT K H a xs ∧ xs.length ≤ i⟩
theorem turn_enumT {P : Program} {w : World} {K : PySem.W.Frag} {elts : List Expr} {kk : Nat} {tpos : Pos} (a e it : Addr) (ha : a ≠ it) (hae : a ≠ e) :
    Turn P w K (.Tuple elts kk tpos) (IteT K a) [e, it] e (fun i h => (∃ old, IsEnum h e it ((i : Nat) : Int) old) ∧ h.IsTupleIter it a i ∧ e ≠ it) where
  mem := by simp
  obj := fun i h st b hb => by
    obtain ⟨⟨old, he⟩, ⟨o, ho, hc, hd⟩, _⟩ := st
    have e' : b = e ∨ b = it := by simpa using hb
    rcases e' with z | z
    · rw [z]; exact ⟨_, he, fun v q => nomatch q⟩
    · rw [z]; exact ⟨o, ho, fun v q => by rw [hd] at q; cases q⟩
  keep := fun i h h' st k => let ⟨⟨old, he⟩, hi, hne⟩ := st; ⟨⟨old, k e (by simp) _ he⟩, hi.at fun o q => k it (by simp) o q, hne⟩
  item := by
    intro X hP hw hK hc i pins s σ H E I hf st hg
    subst hP hw hK
    obtain ⟨⟨old, he⟩, hit, hne⟩ := st
    obtain ⟨xs, x, hq, hx⟩ := hg
    obtain ⟨its, rv, p, hz⟩ := I.tuple hq
    obtain ⟨u, hu, ru⟩ := rv.get hx
    have hil : i < its.toArray.size := by
      have z := (List.getElem?_eq_some_iff.mp hu).1
      simpa using z
    have D := Draws.tuple (prog := X.prog) (w := X.w) (A := X.A.in1) (I.ok.hd hc) it a ha its.toArray
    have hel : e < s.heap.objs.size := Heap.lt_size he
    have hill : it < s.heap.objs.size := by obtain ⟨_, q, _⟩ := hit; exact Heap.lt_size q
    refine wpAny_pyNext_enum_itemD D he ⟨hit, p⟩ hil hne (by simp [hne, Ne.symm hae]) fun x1 h' tk hP ho hit' hT hsz hk => ?_
    obtain rfl : x1 = u := by
      have z : its.toArray[i]? = some x1 := hP
      have z2 : its[i]? = some x1 := by simpa using z
      rw [hu] at z2
      exact (Option.some.inj z2).symm
    refine ⟨_, rfl, wpAny_letOwnedTupleGo_enum (s := { s with heap := h', toks := tk + 1 }) ho fun h'' he' sb => ?_⟩
    have hT2 : h''.get? s.heap.objs.size = some { cls := .type "tuple", data := .seq #[.int i tk, x1] } := (sb.2 _ (Nat.ne_of_gt hel)).trans hT
    have new : ObjOk X.prog X.w (upd H s.heap.objs.size (.tup [.int (i : Nat), x])) h'' s.heap.objs.size (.tup [.int (i : Nat), x]) :=
      ⟨by show 2 ≤ sizeLine; decide, [.int i tk, x1], .cons ⟨_, rfl⟩ (.cons ru .nil), ⟨_, hT2, rfl, _, rfl⟩⟩
    have I1 : Inv X pins σ (upd H s.heap.objs.size (.tup [.int (i : Nat), x])) { s with heap := h'', toks := tk + 1 } :=
      I.turnedNew (ch := [e, it]) (fun b ob hb q => (sb.2 b (fun z => hb (by simp [z]))).trans (hk b ob (fun z => hb (by simp [z])) (fun z => hb (by simp [z])) q)) hf (Nat.le_refl _) new
    refine ⟨.ref s.heap.objs.size, _, I1, rfl, ⟨_, x, rfl, I.hok.fresh (Nat.le_refl _), rfl, fun ys hy => by rw [I.tuple_inj hy hq]; exact hx⟩, ⟨⟨x1, ?_⟩, hit'.1.at fun o q => (sb.2 it (Ne.symm hne)).trans q, hne⟩, fun b hb => ?_⟩
    · have e1 : ((i + 1 : Nat) : Int) = (i : Int) + 1 := by omega
      rw [e1]; exact he'
    · have hb' : b < s.heap.objs.size := by
        have e' : b = e ∨ b = it := by simpa using hb
        rcases e' with z | z
        · rw [z]; exact hel
        · rw [z]; exact hill
      rw [upd_ne (Nat.ne_of_lt hb')]
      exact (hf b hb).1
  done := by
    intro X hP hw hK hc i pins s σ H E I hf st hg
    subst hP hw hK
    obtain ⟨⟨old, he⟩, hit, hne⟩ := st
    obtain ⟨xs, hq, hx⟩ := hg
    obtain ⟨its, rv, p, hz⟩ := I.tuple hq
    obtain ⟨f0, f1, f2, f3, f4, f5⟩ := hf it (by simp)
    have hl := rv.length
    exact enum_endT (I.ok.hd hc) he hit (show s.heap.IsTuple a its.toArray from p) (by simp; omega) fun h' eb => ⟨rfl, I.turned (t' := s.toks) (fun b o hb q => eb b o hb q) f0 f1 f3 f4 f5⟩
  self := fun A i s Q E st h => let ⟨⟨_, he⟩, _⟩ := st; wpAny_pyIter_enum he h
def iEnumT (K : PySem.W.Frag) (ta : TA) : TI := fun σ H R => ta σ H fun vs H1 => ∃ a xs, vs = [.ref a] ∧ SqT K H1 a xs ∧ R (IteT K a) H1
theorem pi_enumT {X : Cx} {e : Expr} {ta : TA} {p pos tpos : Pos} {elts : List Expr} {kk : Nat} (hg : Gl X "enumerate") (hm : X.mg "enumerate" = none) (ha : PA X [e] ta) (hs : starEach [e] X.env = [(false, eval e X.env)] := by rfl) :
    PI X (.Tuple elts kk tpos) (.Call (.Name "enumerate" p) [e] [] pos) (iEnumT X.K ta) := by
  refine ⟨fun pins s σ H R I h => ?_⟩
  refine Call_ (ld_blt I hg hm boot_enumerate (PyProof.Rows.callWith_type1 (thn (ha.run pos pins s σ H _ I h) fun us s1 ⟨vs, H1, I1, r1, q1⟩ => ?_) hs rfl))
  obtain ⟨a, xs, ex, hq, q⟩ := q1
  subst ex
  cases r1 with
  | cons r rr =>
    cases rr
    cases r
    obtain ⟨its, rv, p', hz⟩ := I1.tuple hq
    have hal : a < s1.heap.objs.size := by obtain ⟨_, z, _⟩ := p'; exact Heap.lt_size z
    refine enum_begins1 (begins_tuple a its.toArray) p' fun h' he hit hsz hk => wpAny_pyIter_enum he ?_
    have I2 : Inv X pins σ H1 { s1 with heap := h' } := I1.kept (t' := s1.toks) hk
    refine ⟨s1.heap.objs.size + 1, [s1.heap.objs.size + 1, s1.heap.objs.size], _, _, H1, rfl, I2, turn_enumT a (s1.heap.objs.size + 1) s1.heap.objs.size (Nat.ne_of_lt hal) (Nat.ne_of_lt (Nat.lt_succ_of_lt hal)), ⟨⟨.none, he⟩, ⟨_, hit, rfl, rfl⟩, Nat.succ_ne_self _⟩, fun b hb => ?_, q⟩
    have e' : b = s1.heap.objs.size + 1 ∨ b = s1.heap.objs.size := by simpa using hb
    have hle : s1.heap.objs.size ≤ b := by
      rcases e' with z | z
      · rw [z]; exact Nat.le_add_right _ _
      · rw [z]; exact Nat.le_refl _
    exact I1.fpOk hle (I1.hok.fresh hle)
end L2
end
section
set_option Elab.async false
set_option linter.all false
set_option maxRecDepth 100000
set_option maxHeartbeats 2000000
namespace PySem
namespace SupX
open PySem.W PySem.Calls PyProof.Rows PySem.HandSPX

structure StP where
  f : Str
  q1 : Pos
  q2 : Pos
  q3 : Pos
  q4 : Pos
def stB : List StP → List Stmt
  | [] => []
  | z :: r => .Assign [.Attribute (.Name "self" z.q1) z.f z.q2] (.Name z.f z.q3) z.q4 :: stB r
def iB (msg : Expr) (p0 p1 p2 p3 p4 : Pos) (l : List StP) : List Stmt :=
  .Expr (.Call (.Attribute (.Call (.Name "super" p0) [] [] p1) "__init__" p2) [msg] [] p3) p4 :: stB l
def putAll : List (Str × Value) → (Str → Option Value) → (Str → Option Value)
  | [], m => m
  | (f, v) :: r, m => putAll r (fun y => if y = f then some v else m y)
/-- the message's expression gives some value and writes nothing -/
def MsgOk (prog : Program) (w : World) (env : Env) (m : Str → Option Value) (msg : Expr) : Prop :=
  ∀ (A : Around) (E : Value → Shared → Prop) (s : Shared) (Q : Value → Shared → Prop), s.heap.Ns env.locals m → (∀ v t, Q v { s with toks := t }) → wpAny (model prog w) A (eval msg env) Q E s

theorem lookup_nd {k : Str} {v : Value} : ∀ {l : List (Str × Value)}, (l.map (·.1)).Nodup → (k, v) ∈ l → l.lookup k = some v
  | [], _, h => nomatch h
  | (a, b) :: r, nd, h => by
    rw [List.map_cons, List.nodup_cons] at nd
    rcases List.mem_cons.mp h with e | e
    · cases e
      simp [List.lookup]
    · have ne : ¬ k = a := fun z => nd.1 (by rw [← z]; exact List.mem_map_of_mem (f := (·.1)) e)
      have nb : (k == a) = false := by simpa using ne
      show (match k == a with | true => some b | false => r.lookup k) = some v
      rw [nb]
      exact lookup_nd nd.2 e
theorem lookup_rev {k : Str} {v : Value} {l : List (Str × Value)} (nd : (l.map (·.1)).Nodup) (h : (k, v) ∈ l) : l.reverse.lookup k = some v :=
  lookup_nd (by rw [List.map_reverse]; exact List.pairwise_reverse.mpr (List.Pairwise.imp (fun z => Ne.symm z) nd)) (List.mem_reverse.mpr h)

section
variable {prog : Program} {w : World} {M : Model} {A : Around} {E : Value → Shared → Prop} {R : Result → Shared → Prop} {s : Shared} {K : Frag}
theorem ldK {name : Str} {scope : Scope} {L a : Addr} {cd : Value} {cells : List (Str × Addr)} {m : Str → Option Value} {x : Str} {pos : Pos} {v : Value} {Q : Value → Shared → Prop}
    (hn : s.heap.Ns L m) (hv : m x = some v) (h : Q v s) (hk : scope.kind = .function) (hl : scope.names.lookup x = some .local) (hd : (x == ("__debug__" : Str)) = false) :
    wpAny M A (eval (.Name x pos) (envX name scope L a cd cells)) Q E s := wpAny_Name (wpAny_loadName_local (env := envX name scope L a cd cells) hk hl hn hv h) hd

/-- the method-wrapper of ValueError.__init__ called on the fresh exception -/
theorem call_mw {h : Heap} {g : Array GenState} {d : Drawn} {t : Nat} {os : OsState} {nm q : Str} {C N : Addr} {bs bm : List Value} {hdct : Bool} {sn : List Str} {sub : List Value} {ab : Bool} {col : Option Bool} {dd : Option Addr} {k0 k1 k2 k3 k5 : Option Value}
    {u e t0 : Addr} {rest : List Value} {Q : Value → Shared → Prop} (hC : h.get? C = some (excClassObj nm q C N bs bm hdct sn sub ab col dd k0 k1 k2 k3 k5 "ValueError.__new__")) (hbm : refsVE bm = true)
    (he : h.get? e = some (excO C t0)) (hu : h.get? u = some (kxs_mw "ValueError.__init__" e)) (hrest : rest.length ≤ sizeLine)
    (hq : ∀ h' t1, (∀ b o, b ≠ e → h.get? b = some o → h'.get? b = some o) → h'.get? e = some (excO C t1) → Q .none ⟨h', g, d, t, os⟩) :
    wpAny (model prog w) A (call (.ref u) rest) Q E ⟨h, g, d, t, os⟩ := by
  refine wpAny_call (codeAny_of_tree ?_)
  show wpAny _ A.in1 (callAny (.ref u) ⟨rest, []⟩) _ _ _
  simp only [callAny]
  refine wpAny_bind (wpAny_load hu ?_)
  simp only [kxs_mw, show (Value.type "method-wrapper" == Value.type "method" || Value.type "method-wrapper" == Value.type "builtin_function_or_method" || Value.type "method-wrapper" == Value.type "method-wrapper") = true by decide, if_true]
  refine KFB.if_so (by decide) ?_
  refine wpAny_bind (check_bound_init F.excBase_ValueError.toExcCallFacts hC he rfl ?_)
  refine wpAny_bind (wpAny_pure (wpAny_pure ?_))
  refine ⟨Code.quiet_builtin _ (by decide +kernel), codeAny_builtin F.excBase_ValueError.initEntry ?_⟩
  rw [Around.under_plainId F.excBase_ValueError.init.plain _]
  wp_walk
  refine hq _ h.objs.size (fun b o hb ho => ?_) ?_
  · rw [Heap.get?_update_other _ _ (Ne.symm hb)]
    exact Heap.get?_push_of_some _ ho
  · rw [Heap.get?_update_self _ (Heap.get?_push_of_some _ he) rfl]
    rfl

/-- self.f = f, the further ones -/
theorem stores_old {name : Str} {scope : Scope} {L a C x dx : Addr} {cd : Value} {cells : List (Str × Addr)} {m : Str → Option Value} {fv : Array Value} {cdt : ClassData}
    (hk : scope.kind = .function) (hcd : clsIn K C = some cdt) (hm : refsVE cdt.mro = true) (hh : cdt.hasDict = true) (hsa : findIn K (.ref C) "__setattr__" = some (some (.builtin "object.__setattr__")))
    (hself : m "self" = some (.ref x)) (lself : scope.names.lookup ("self" : Str) = some .local) (hxL : x ≠ L) (hdL : dx ≠ L) (hnx : K.lookup x = none) (hnd : K.lookup dx = none) (hxd : x ≠ dx) :
    ∀ (l : List StP) (vs : List Value) (s : Shared) (m0 : Str → Option Value) (nl : List Str), vs.length = l.length → K.In s.heap → s.heap.Ns L m → s.heap.get? x = some { cls := .ref C, dict := some dx, data := .fields fv } → s.heap.Ns1 dx m0 → Within m0 nl → nl.length + l.length ≤ 900 →
      (∀ z ∈ l, scope.names.lookup z.f = some .local ∧ (z.f == ("__debug__" : Str)) = false ∧ findIn K (.ref C) z.f = some none) → (∀ (i : Nat) (z : StP) (v : Value), l[i]? = some z → vs[i]? = some v → m z.f = some v) →
      (∀ h' tk', (∀ b o, b ≠ dx → s.heap.get? b = some o → h'.get? b = some o) → h'.Ns1 dx (putAll ((l.map (·.f)).zip vs) m0) → R (.ok (.ret .none)) { s with heap := h', toks := tk' }) →
      wpAny (model prog w) A (execs (stB l) (envX name scope L a cd cells)) (fun fl s' => R (.ok (.ret (match fl with | .ret v => v | _ => .none))) s') E s := by
  intro l
  induction l with
  | nil =>
    intro vs s m0 nl hl X hn hx hns hw hz hloc hval hq
    cases vs with
    | cons _ _ => cases hl
    | nil => exact wpAny_execs_nil (hq s.heap s.toks (fun b o _ e => e) hns)
  | cons z r ih =>
    intro vs s m0 nl hl X hn hx hns hw hz hloc hval hq
    cases vs with
    | nil => cases hl
    | cons v vs =>
      obtain ⟨l1, l2, l3⟩ := hloc z List.mem_cons_self
      obtain ⟨oD, esD, epD, hoD, _, _⟩ := hns.count hw
      refine wpAny_execs_cons (plainObj_wpAny_Assign_Attribute ?_)
      refine ldK hn (hval 0 z v rfl rfl) ?_ hk l1 l2
      refine ldK hn hself ?_ hk lself (by decide)
      refine set_plain X (ox := { cls := .ref C, dict := some dx, data := .fields fv }) (od := some oD) ⟨hx, rfl, rfl, hoD⟩ hsa ?_
      refine PySem.OEX.osa_old X hx hns hw (by rw [List.length_cons] at hz; omega) hcd hm hh l3 fun h' tk' k hn' => ?_
      have X' : K.In h' := fun b o e => k b o (fun q => by rw [q, hnd] at e; cases e) (X b o e)
      obtain ⟨oL, esL, epL, hL, hrL⟩ := hn
      refine ih vs ⟨h', s.gens, s.drawn, tk', s.os⟩ _ (z.f :: nl) (by simpa using hl) X' ⟨oL, esL, epL, k _ _ (Ne.symm hdL) hL, hrL⟩ (k _ _ hxd hx) hn' (Within.cons z.f v hw) (by rw [List.length_cons] at hz ⊢; omega)
        (fun y hy => hloc y (List.mem_cons_of_mem _ hy)) (fun i y u h1 h2 => hval (i + 1) y u h1 h2) fun h2 t2 k2 n2 => ?_
      exact hq h2 t2 (fun b o hb e => k2 b o hb (k b o hb e)) n2
end
end SupX
end PySem
end
section
set_option Elab.async false
set_option linter.all false
set_option maxRecDepth 100000
set_option maxHeartbeats 2000000
namespace PySem
namespace SupX
open PySem.W PySem.Calls PyProof.Rows PySem.HandSPX

structure SupScope (scope : Scope) (l : List StP) : Prop where
  kind : scope.kind = .function
  co : scope.isCoroutine = false
  gen : scope.isGenerator = false
  cell : ∀ x ∈ scope.names, x.2 ≠ .cell
  self : scope.names.lookup ("self" : Str) = some .local
  sup : scope.names.lookup ("super" : Str) = some .globalImplicit
  clsv : scope.names.lookup ("__class__" : Str) = some .free
  loc : ∀ z ∈ l, scope.names.lookup z.f = some .local ∧ (z.f == ("__debug__" : Str)) = false
  nd : (("self" : Str) :: l.map (·.f)).Nodup
structure SupTxt (prog : Program) (K : Frag) (C fI : Addr) (qual : Str) (params : Arguments) (body : List Stmt) (scope : Scope) (l : List StP) : Prop where
  cls : ∃ nm q N bs bm sn sub ab col dd k0 k1 k2 k3 k5, K.lookup C = some (excClassObj nm q C N bs bm true sn sub ab col dd k0 k1 k2 k3 k5 "ValueError.__new__") ∧ refsVE bm = true
  sa : findIn K (.ref C) "__setattr__" = some (some (.builtin "object.__setattr__"))
  noat : ∀ z ∈ l, findIn K (.ref C) z.f = some none
  iC : findIn K (.ref C) "__init__" = some (some (.ref fI))
  tC : typeIn K (.ref fI) = some (.type "function")
  kC : keepIn K (.ref C) = true
  exC : subIn K (.ref C) (.type "BaseException") = some true
  veC : subIn K (.ref C) (.type "ValueError") = some true
  tyC : typeIn K (.ref C) = some (.type "type")
  mro : mroIn K C (.ref C) = some true
  sup : ks_superIn K C C "__init__" = some (some (.builtin "ValueError.__init__"))
  opq : nsIn K cStatics "thirdparty.any" = some none
  fn : ∃ (oc : Value) (od : Option Addr) (osl : Array (Option Value)) (kV doc pm : Value) (an : Option Addr) (cda : Addr) (ct : Value) (cc : Addr) (ccl : Value) (cdd : Option Addr) (cvs : Array Value) (ccs : Array (Option Value)) (file : Str) (tf : Tok) (cl : Value) (cld : Option Addr) (csl : Array (Option Value)),
    K.lookup fI = some ⟨oc, od, .func (ksFn "__init__" qual params body scope .none kV doc pm an (.ref cda) ct cc), osl⟩ ∧ codeIn K (.ref cda) qual = true ∧
    K.lookup cda = some ⟨ccl, cdd, .fields cvs, ccs⟩ ∧ cvs[2]? = some (.str file tf) ∧ ((prog.main.file : Str) == file) = true ∧ K.lookup cc = some ⟨cl, cld, .cell (some (.ref C)), csl⟩
structure InitEnd (h h' : Heap) (x C dx t1 : Addr) (l : List StP) (vs : List Value) : Prop where
  keep : ∀ b o, b ≠ x → h.get? b = some o → h'.get? b = some o
  obj : h'.get? x = some { cls := .ref C, dict := some dx, data := .fields #[.ref t1, .none, .none, .none, .bool false, .none] }
  dbig : h.objs.size ≤ dx
  dne : dx ≠ x
  ns : h'.Ns1 dx (putAll ((l.map (·.f)).zip vs) fun _ => none)

section
variable {prog : Program} {w : World} {A : Around} {E : Value → Shared → Prop} {R : Result → Shared → Prop} {s : Shared} {K : Frag} {mg mb : Str → Option Value} {C fI : Addr} {qual : Str} {params : Arguments} {scope : Scope} {msg : Expr} {p0 p1 p2 p3 p4 : Pos} {z0 : StP} {l : List StP}
/-- what the places of the text decide -/
structure SupPos (qual : Str) (scope : Scope) (fI : Addr) (msg : Expr) (p0 p1 p2 p3 p4 : Pos) : Prop where
  ev : ∀ (L : Addr) (cda cc : Addr), ∃ pl : Sem Bool, eval (.Call (.Attribute (.Call (.Name "super" p0) [] [] p1) "__init__" p2) [msg] [] p3) (ksEnv qual scope L fI (.ref cda) cc) = (do
      let ov ← attributeBase (.Call (.Name "super" p0) [] [] p1) "__init__" (ksEnv qual scope L fI (.ref cda) cc) (eval (.Call (.Name "super" p0) [] [] p1) (ksEnv qual scope L fI (.ref cda) cc))
      standAt p2.atName
      let (f, first) ← holding [ov] (getMethod ov "__init__" pl)
      callWith p3 f first (backTo p3 (starEach [msg] (ksEnv qual scope L fI (.ref cda) cc))) [])
  it : ∀ (L : Addr) (cda cc : Addr), interactive (ksEnv qual scope L fI (.ref cda) cc) = false
  st : ∀ (L : Addr) (cda cc : Addr), backTo p3 (starEach [msg] (ksEnv qual scope L fI (.ref cda) cc)) = [(false, eval msg (ksEnv qual scope L fI (.ref cda) cc))]
theorem sup_init (PP : SupPos qual scope fI msg p0 p1 p2 p3 p4) (T : SupTxt prog K C fI qual params (iB msg p0 p1 p2 p3 p4 (z0 :: l)) scope (z0 :: l)) (S : SupScope scope (z0 :: l)) (htop : (prog.main.scope.names.lookup ("super" : Str)).isSome = false)
    (hhead : ∃ ar : Arg, (params.posonlyargs ++ params.args).head? = some ar ∧ ar.arg = "self")
    (hbind : ∀ (kV doc pm : Value) (an : Option Addr) (cda : Addr) (ct : Value) (cc : Addr) (us : List Value), us.length = l.length + 2 →
      bindArgs (ksFn "__init__" qual params (iB msg p0 p1 p2 p3 p4 (z0 :: l)) scope .none kV doc pm an (.ref cda) ct cc) ⟨us, []⟩ = pure ((("self" : Str) :: (z0 :: l).map (·.f)).zip us))
    {x t0 : Addr} {vs : List Value} (X : K.In s.heap) (hlim : s.heap.NoLimit) (hG : s.heap.Ns mainGlobals mg) (gs : mg "super" = none) (hB : s.heap.Ns builtinsNs mb) (bsup : mb "super" = some (.type "super"))
    (hl : vs.length = l.length + 1) (hx : s.heap.get? x = some (excO C t0)) (hnx : K.lookup x = none) (hroom : A.depth < recursionLimit) (hl2 : l.length ≤ 800)
    (hmsg : ∀ (L cda cc : Addr), MsgOk prog w (ksEnv qual scope L fI (.ref cda) cc) (fun y => (((("self" : Str) :: (z0 :: l).map (·.f)).zip (.ref x :: vs)).reverse).lookup y) msg)
    (hq : ∀ h' tk dx t1, InitEnd s.heap h' x C dx t1 (z0 :: l) vs → R (.ok (.ret .none)) { s with heap := h', toks := tk }) :
    codeAny (model prog w) A (.call (.ref fI) ⟨.ref x :: vs, []⟩) R s := by
  obtain ⟨oc, od, osl, kV, doc, pm, an, cda, ct, cc, ccl, cdd, cvs, ccs, file, tf, cl, cld, csl, ho, hcd, hcode, hvs, hfile, hcell⟩ := T.fn
  obtain ⟨nm, q, N, bs, bm, sn, sub, ab, col, dd, k0, k1, k2, k3, k5, hC, hbm⟩ := T.cls
  have hcl : clsIn K C = some { name := nm, bases := bs, mro := .ref C :: bm, ns := N, qualname := q, hasDict := true, slotNames := sn, subclasses := sub, abstract := ab, collection := col, hasDel := false } := by unfold clsIn; rw [hC] <;> rfl
  obtain ⟨ar, har, hself⟩ := hhead
  have hlen : (Value.ref x :: vs).length = l.length + 2 := by rw [List.length_cons, hl]
  have hzl : ((("self" : Str) :: (z0 :: l).map (·.f)).zip (Value.ref x :: vs)).map (·.1) = ("self" : Str) :: (z0 :: l).map (·.f) := by
    rw [← List.unzip_fst, List.unzip_zip (by rw [hlen]; simp)]
  have hnd : (((("self" : Str) :: (z0 :: l).map (·.f)).zip (Value.ref x :: vs)).map (·.1)).Nodup := by rw [hzl]; exact S.nd
  have hm0 : ((("self" : Str) :: (z0 :: l).map (·.f)).zip (Value.ref x :: vs)).reverse.lookup ("self" : Str) = some (.ref x) := lookup_rev hnd List.mem_cons_self
  have hmi : ∀ (i : Nat) (z : StP) (v : Value), (z0 :: l)[i]? = some z → vs[i]? = some v → ((("self" : Str) :: (z0 :: l).map (·.f)).zip (Value.ref x :: vs)).reverse.lookup z.f = some v := fun i z v h1 h2 => by
    refine lookup_rev hnd (List.mem_cons_of_mem _ ?_)
    refine List.mem_iff_getElem?.mpr ⟨i, ?_⟩
    exact List.getElem?_zip_eq_some.mpr ⟨by rw [List.getElem?_map, h1]; rfl, h2⟩
  refine ks_codeAny_call_defAt (fd := ksFn "__init__" qual params (iB msg p0 p1 p2 p3 p4 (z0 :: l)) scope .none kV doc pm an (.ref cda) ct cc) (body := iB msg p0 p1 p2 p3 p4 (z0 :: l)) (binds := (("self" : Str) :: (z0 :: l).map (·.f)).zip (Value.ref x :: vs)) hroom (X _ _ ho) rfl hlim (codeRec_of X hcd) rfl (BindsTo.of_eq (hbind kV doc pm an cda ct cc _ hlen)) S.cell (fun y hy => ?_) (fun h₁ hns k => ?_) S.co S.gen S.kind
  · have hy1 : y.1 ∈ ("self" : Str) :: (z0 :: l).map (·.f) := (List.of_mem_zip (a := y.1) (b := y.2) hy).1
    rcases List.mem_cons.mp hy1 with e | e
    · rw [e]; exact S.self
    · obtain ⟨z, hz, e2⟩ := List.mem_map.mp e
      rw [← e2]; exact (S.loc z hz).1
  · obtain ⟨hh, g, d, t, os⟩ := s
    have X₁ : K.In h₁ := X.keeps k
    have hx₁ := k _ _ hx
    have hxL : x ≠ hh.objs.size := Nat.ne_of_lt (Heap.lt_size hx)
    show _root_.PySem.wpAt (model prog w) (A.deeper (ksEnv qual scope hh.objs.size fI (.ref cda) cc)) (.func _ (ksEnv qual scope hh.objs.size fI (.ref cda) cc)) (execs (iB msg p0 p1 p2 p3 p4 (z0 :: l)) (ksEnv qual scope hh.objs.size fI (.ref cda) cc)) _ _ _
    obtain ⟨pl, hev⟩ := PP.ev hh.objs.size cda cc
    refine ks_wpAt_execs_cons (ks_wpAt_Expr_any (ks_wpAt_MethodCall (pl := pl) ?_ hev) (PP.it _ _ _))
    have I₁ : InstAt h₁ x (excO C t0) C none := ⟨hx₁, rfl, rfl, trivial⟩
    refine ks_wpAt_super_base (env := ksEnv qual scope hh.objs.size fI (.ref cda) cc) S.sup S.clsv (by decide) rfl (X₁ _ _ ho) rfl har rfl (X₁ _ _ hcode) rfl hvs hfile htop ?_
    refine ks_loadName_global S.kind S.sup (loadGlobal_builtin (env := ksEnv qual scope hh.objs.size fI (.ref cda) cc) (hG.keeps k) gs (hB.keeps k) bsup ⟨rfl, ?_⟩)
    refine wpAny_loadName_free S.kind S.clsv rfl ⟨_, X₁ _ _ hcell, rfl⟩ ?_
    rw [hself]
    refine wpAny_loadName_local S.kind S.self hns hm0 ?_
    refine ks_wpAny_isType_cls (X₁ _ _ hC) rfl ⟨rfl, ?_⟩
    refine ks_wpAny_call_super (X₁ _ _ hC) rfl I₁.at_ I₁.cls (fun c e => by cases e) (looks_mroIn X₁ T.mro) (fun h₂ e₂ k₂ => ?_)
    have X₂ : K.In h₂ := X₁.keeps k₂
    have I₂ : InstAt h₂ x (excO C t0) C none := ⟨k₂ _ _ hx₁, rfl, rfl, trivial⟩
    have hsup := T.sup
    unfold ks_superIn at hsup
    rw [hcl] at hsup
    refine kxs_getMethod kxs_ValueError e₂ (looks_opaque X₂ T.opq) (l₀ := .ref C :: bm) (fun A Q E s k q => wpAny_bind ((looks_clsIn X₂ hcl) A _ E s k (wpAny_pure q))) rfl X₂ hsup (I₂.type.andThen (looks_subIn X₂ T.veC)) (ks_ne X₂ I₂ hcl) (by decide) ?_
    rw [PP.st]
    refine kxs_callWith (i := "ValueError.__init__") (x := x) (by rfl) (evalArgs_plain ?_)
    obtain ⟨oL, esL, epL, hL, hrL⟩ := hns
    have k₃ : ∀ b o, h₂.get? b = some o → (h₂.push (kxs_mw "ValueError.__init__" x)).get? b = some o := fun b o e => Heap.get?_push_of_some _ e
    refine spliced_cons ?_
    refine hmsg hh.objs.size cda cc _ _ _ _ ⟨oL, esL, epL, k₃ _ _ (k₂ _ _ hL), hrL⟩ fun v tk => ?_
    refine spliced_nil ?_
    have hmw : (h₂.push (kxs_mw "ValueError.__init__" x)).get? h₂.objs.size = some (kxs_mw "ValueError.__init__" x) := Heap.get?_push_at rfl rfl
    refine ⟨hmw, ?_⟩
    have X₃ : K.In (h₂.push (kxs_mw "ValueError.__init__" x)) := X₂.keeps k₃
    refine call_mw (X₃ _ _ hC) hbm (k₃ _ _ I₂.at_) hmw (by show 1 ≤ sizeLine; rw [sizeLine_eq]; decide) fun h₄ t₄ k₄ e₄ => ?_
    have kx : ∀ b o, b ≠ x → h₁.get? b = some o → h₄.get? b = some o := fun b o hb e => k₄ b o hb (k₃ _ _ (k₂ _ _ e))
    refine wpAt_of_wpAny ?_
    have hn₄ : h₄.Ns hh.objs.size (fun y => (((("self" : Str) :: (z0 :: l).map (·.f)).zip (Value.ref x :: vs)).reverse).lookup y) := ⟨oL, esL, epL, kx _ _ (Ne.symm hxL) hL, hrL⟩
    have X₄ : K.In h₄ := fun b o e => kx b o (fun q => by rw [q, hnx] at e; cases e) (X₁ b o e)
    cases vs with
    | nil => cases hl
    | cons v0 vr =>
      obtain ⟨l1, l2⟩ := S.loc z0 List.mem_cons_self
      show wpAny _ _ (execs (stB (z0 :: l)) _) _ _ _
      refine wpAny_execs_cons (plainObj_wpAny_Assign_Attribute ?_)
      refine ldK hn₄ (hmi 0 z0 v0 rfl rfl) ?_ S.kind l1 l2
      refine ldK hn₄ hm0 ?_ S.kind S.self (by decide)
      refine set_plain X₄ (ox := excO C t₄) (od := none) ⟨e₄, rfl, rfl, trivial⟩ T.sa ?_
      refine exc_osa X₄ e₄ hcl (show refsVE (.ref C :: bm) = true from hbm) rfl (T.noat z0 List.mem_cons_self) fun h₅ tk₅ dx k₅ dn dne hx₅ hn₅ => ?_
      have dL : dx ≠ hh.objs.size := fun q => by
        have z := Heap.lt_size (kx _ _ (Ne.symm hxL) hL)
        rw [← q] at z
        exact absurd (Nat.lt_of_lt_of_le z dn) (Nat.lt_irrefl _)
      have sz : hh.objs.size ≤ dx := Nat.le_trans (Nat.le_of_lt (Heap.lt_size (kx _ _ (Ne.symm hxL) hL))) dn
      have dK : K.lookup dx = none := by
        cases e : K.lookup dx with
        | none => rfl
        | some o => exact absurd (Nat.lt_of_lt_of_le (Heap.lt_size (X₄ _ _ e)) dn) (Nat.lt_irrefl _)
      have X₅ : K.In h₅ := fun b o e => k₅ b o (fun q => by rw [q, hnx] at e; cases e) (X₄ b o e)
      refine stores_old S.kind hcl (show refsVE (.ref C :: bm) = true from hbm) rfl T.sa hm0 S.self hxL dL hnx dK (Ne.symm dne) l vr ⟨h₅, g, d, tk₅, os⟩ _ [z0.f] (by simpa using hl) X₅ ⟨oL, esL, epL, k₅ _ _ (Ne.symm hxL) (kx _ _ (Ne.symm hxL) hL), hrL⟩ hx₅ hn₅ ?_ (by show 1 + l.length ≤ 900; omega)
        (fun z hz => ⟨(S.loc z (List.mem_cons_of_mem _ hz)).1, (S.loc z (List.mem_cons_of_mem _ hz)).2, T.noat z (List.mem_cons_of_mem _ hz)⟩) (fun i z u e1 e2 => hmi (i + 1) z u e1 e2) fun h₆ t₆ k₆ n₆ => ?_
      · intro y hy
        by_cases e : y = z0.f
        · rw [e]; exact List.mem_cons_self
        · have hy2 : (if y = z0.f then some v0 else none) ≠ none := hy
          rw [if_neg e] at hy2
          exact absurd rfl hy2
      · refine hq h₆ t₆ dx t₄ ⟨fun b o hb e => ?_, k₆ _ _ (Ne.symm dne) hx₅, sz, dne, n₆⟩
        have hbd : b ≠ dx := fun q => by
          have z := Heap.lt_size e
          rw [q] at z
          exact absurd (Nat.lt_of_lt_of_le z sz) (Nat.lt_irrefl _)
        exact k₆ _ _ hbd (k₅ _ _ hb (kx _ _ hb (k _ _ e)))

/-- a made one -/
structure Made (h h' : Heap) (e C d : Addr) (fs : List Str) (us : List Value) : Prop where
  keep : ∀ b o, h.get? b = some o → h'.get? b = some o
  new : h.objs.size ≤ e
  obj : ∃ oe vs, h'.get? e = some oe ∧ oe.cls = .ref C ∧ oe.dict = some d ∧ oe.data = .fields vs ∧ vs[1]? = some .none
  dbig : h.objs.size ≤ d
  dne : d ≠ e
  ns : h'.Ns1 d (putAll (fs.zip us) fun _ => none)
theorem sup_made (PP : SupPos qual scope fI msg p0 p1 p2 p3 p4) (T : SupTxt prog K C fI qual params (iB msg p0 p1 p2 p3 p4 (z0 :: l)) scope (z0 :: l)) (S : SupScope scope (z0 :: l)) (htop : (prog.main.scope.names.lookup ("super" : Str)).isSome = false)
    (hhead : ∃ ar : Arg, (params.posonlyargs ++ params.args).head? = some ar ∧ ar.arg = "self")
    (hbind : ∀ (kV doc pm : Value) (an : Option Addr) (cda : Addr) (ct : Value) (cc : Addr) (us : List Value), us.length = l.length + 2 →
      bindArgs (ksFn "__init__" qual params (iB msg p0 p1 p2 p3 p4 (z0 :: l)) scope .none kV doc pm an (.ref cda) ct cc) ⟨us, []⟩ = pure ((("self" : Str) :: (z0 :: l).map (·.f)).zip us))
    {vs : List Value} (X : K.In s.heap) (hlim : s.heap.NoLimit) (hG : s.heap.Ns mainGlobals mg) (gs : mg "super" = none) (hB : s.heap.Ns builtinsNs mb) (bsup : mb "super" = some (.type "super"))
    (hl : vs.length = l.length + 1) (hroom : A.depth + 1 < recursionLimit) (hl2 : l.length ≤ 800)
    (hmsg : ∀ (x L cda cc : Addr), MsgOk prog w (ksEnv qual scope L fI (.ref cda) cc) (fun y => (((("self" : Str) :: (z0 :: l).map (·.f)).zip (.ref x :: vs)).reverse).lookup y) msg)
    (hq : ∀ h' tk e d, Made s.heap h' e C d ((z0 :: l).map (·.f)) vs → R (.ok (.ret (.ref e))) { s with heap := h', toks := tk }) :
    codeAny (model prog w) A (.call (.ref C) ⟨vs, []⟩) R s := by
  obtain ⟨nm, q, N, bs, bm, sn, sub, ab, col, dd, k0, k1, k2, k3, k5, hC, hbm⟩ := T.cls
  obtain ⟨hp, g, dr, tk, os⟩ := s
  have k : ∀ b o, hp.get? b = some o → ((hp.push (kdv_tup vs)).push (excO C hp.objs.size)).get? b = some o := fun b o e => Heap.get?_push_of_some _ (Heap.get?_push_of_some _ e)
  have hget : ((hp.push (kdv_tup vs)).push (excO C hp.objs.size)).get? (hp.objs.size + 1) = some (excO C hp.objs.size) := by heap_get
  have hnx : K.lookup (hp.objs.size + 1) = none := by
    cases e : K.lookup (hp.objs.size + 1) with
    | none => rfl
    | some o =>
      have z : hp.get? (hp.objs.size + 1) = some o := X _ _ e
      exact absurd (Nat.lt_of_succ_lt (Heap.lt_size z)) (Nat.lt_irrefl _)
  have hvl : vs.length ≤ sizeLine := by
    rw [sizeLine_eq]
    omega
  refine call_own F.excBase_ValueError (fun X => refsVE_contains X bm hbm) (X _ _ hC) (looks_findIn X T.iC) (fun self => bind_fn X self T.tC) hvl ?_
  refine sup_init (s := ⟨(hp.push (kdv_tup vs)).push (excO C hp.objs.size), g, dr, tk, os⟩) PP T S htop hhead hbind (X.keeps k) (hlim.keeps k) (hG.keeps k) gs (hB.keeps k) bsup hl hget hnx ?_ hl2 (hmsg _) fun h' tk' dx t1 M => ?_
  · show A.depth + 1 < recursionLimit
    exact hroom
  · have dn : ((hp.push (kdv_tup vs)).push (excO C hp.objs.size)).objs.size ≤ dx := M.dbig
    have old : ∀ b o, hp.get? b = some o → h'.get? b = some o := fun b o e => M.keep b o (Nat.ne_of_lt (Nat.lt_succ_of_lt (Heap.lt_size e))) (k b o e)
    rw [Heap.size_push, Heap.size_push] at dn
    exact ⟨rfl, hq h' tk' (hp.objs.size + 1) dx ⟨old, Nat.le_succ _, ⟨_, _, M.obj, rfl, rfl, rfl, rfl⟩, (by show hp.objs.size ≤ dx; omega), M.dne, M.ns⟩⟩
end
/-- a class that is made by C(..): what its caller needs -/
structure SupCls (prog : Program) (w : World) (K : Frag) (mg : Str → Option Value) (x : Str) (C : Addr) (fs : List Str) (P : List L2.V → Prop) : Prop where
  gC : mg x = some (.ref C)
  gs : mg "super" = none
  kC : keepIn K (.ref C) = true
  exC : subIn K (.ref C) (.type "BaseException") = some true
  tyC : typeIn K (.ref C) = some (.type "type")
  made : ∀ (A : Around) (s : Shared) (R : Result → Shared → Prop) (mb : Str → Option Value) (vs : List L2.V) (us : List Value), L2.Vals vs us → P vs → vs.length = fs.length → K.In s.heap → s.heap.NoLimit → s.heap.Ns mainGlobals mg → s.heap.Ns builtinsNs mb → mb "super" = some (.type "super") → A.depth + 1 < recursionLimit →
    (∀ h' tk e d, Made s.heap h' e C d fs us → R (.ok (.ret (.ref e))) { s with heap := h', toks := tk }) → codeAny (model prog w) A (.call (.ref C) ⟨us, []⟩) R s
end SupX
end PySem
namespace L2
open PySem PySem.Spec PyProof.Rows
/-- the fields, the last one first -/
def xfs : List Str → List V → List (Str × V) → List (Str × V)
  | f :: fs, v :: vs, acc => xfs fs vs ((f, v) :: acc)
  | _, _, acc => acc
theorem xfs_ok : ∀ {fs : List Str} {vs : List V} {us : List Value} {acc : List (Str × V)} {m : Str → Option Value}, Vals vs us → (∀ f, RelO (acc.lookup f) (m f)) → ∀ f, RelO ((xfs fs vs acc).lookup f) (PySem.SupX.putAll (fs.zip us) m f)
  | [], _, _, _, _, _, r => r
  | _ :: _, [], _, _, _, .nil, r => r
  | g :: fs, v :: vs, _ :: us, acc, m, .cons rv rt, r => xfs_ok (fs := fs) rt (relO_put rv r)
section
variable {X : Cx} {C : Addr} {x : Str} {fs : List Str} {P : List V → Prop}
/-- C(e, ..) -/
def tMkSup (C : Addr) (fs : List Str) (P : List V → Prop) (ta : TA) : St → Hp → XK → Prop := fun σ H Q => ta σ H fun vs H1 => P vs ∧ vs.length = fs.length ∧ ∀ d, H1 d = none → Q (.ref C) (some d) (upd H1 d (.xd (xfs fs vs [])))
theorem pmk_sup {e : Expr} {es : List Expr} {ta : TA} {p pos : Pos} {k : Nat} (T : PySem.SupX.SupCls X.prog X.w X.K X.mg x C fs P) (hr : Room k X.A) (ha : PA X (e :: es) ta) (hg : Gl X x := by rfl) (hx : (x == ("__debug__" : Str)) = false := by decide)
    (he : starEach (e :: es) X.env = (false, eval e X.env) :: starEach es X.env := by rfl) (hpl : (backTo pos (starEach es X.env)).any (·.1) = false := by rfl) :
    PMk X (.Call (.Name x p) (e :: es) [] pos) (tMkSup C fs P ta) := by
  intro pins s σ H Q I h
  refine wpAny_Call_Name_kw (ld_glob I hg T.gC ?_ hx)
  refine PySem.W.callWith_K (h₀ := X.base) I.ok.mod.kin T.kC (thn (ha.run pos pins s σ H _ I h) fun us s1 hh => ?_) he hpl
  obtain ⟨vs, H1, I1, r1, hP, hl, q1⟩ := hh
  refine ⟨I1.kIn, ?_⟩
  show wpAny _ _ (call (.ref C) us) _ _ _
  have hlim := I1.nolimit
  obtain ⟨mb, hb1, hb2⟩ := I1.mod.blt
  have hG : s1.heap.Ns mainGlobals X.mg := I1.mod.glob.keeps I1.bk
  have hB : s1.heap.Ns builtinsNs mb := hb1.keeps I1.bk
  obtain ⟨hp, g, dr, tk, os⟩ := s1
  refine wpAny_call (T.made _ _ _ mb vs us r1 hP hl I1.kIn hlim hG hB ((hb2 _ (by decide)).trans (by decide +kernel)) (by have := hr.dp; omega) fun h' tk' e d M => ?_)
  show MkP X pins σ Q (.ref e) ⟨h', g, dr, tk', os⟩
  obtain ⟨oe, fv, hoe, hc, hd, hdat, h1⟩ := M.obj
  have hns := M.ns
  obtain ⟨G', g1, g2⟩ := restrict h' fun b => decide (b ≠ e)
  have gk : ∀ b, b ≠ e → G'.get? b = h'.get? b := fun b hb => g1 b (decide_eq_true hb)
  have ge : G'.get? e = none := g2 e (by simp)
  have old : ∀ b o, hp.get? b = some o → G'.get? b = some o := fun b o q => (gk b (Nat.ne_of_lt (Nat.lt_of_lt_of_le (Heap.lt_size q) M.new))).trans (M.keep b o q)
  have ob : ObjOk X.prog X.w (upd H1 d (.xd (xfs fs vs []))) G' d (.xd (xfs fs vs [])) :=
    ⟨_, hns.at (fun o q => (gk d M.dne).trans q), fun f => xfs_ok (acc := []) (m := fun _ => none) r1 (fun _ => True.intro) f⟩
  have J : Inv X pins σ (upd H1 d (.xd (xfs fs vs []))) ⟨G', g, dr, tk', os⟩ := I1.laid (t' := tk') old M.dbig ob
  refine ⟨e, oe, fv, ⟨G', g, dr, tk', os⟩, _, .ref C, some d, rfl, J, fun b o q => ?_, ge, hoe, ⟨hc, hd⟩, hdat, h1, ?_, rfl, I1.bare, raises_own T.exC T.tyC, q1 d (I1.hok.fresh M.dbig)⟩
  · by_cases hb : b = e
    · have q' : G'.get? b = some o := q
      rw [hb, ge] at q'
      cases q'
    · exact (gk b hb).symm.trans q
  · rw [upd_ne (Ne.symm M.dne)]
    exact I1.hok.fresh M.new
/-- raise C(e, ..) -/
def tRaiseSup (C : Addr) (fs : List Str) (P : List V → Prop) (W : WX) (ta : TA) : TS := fun _ σ H => tMkSup C fs P ta σ H fun cls d H' => W cls d σ H'
theorem ps_raiseSup {e : Expr} {es : List Expr} {ta : TA} {W : WX} {p pos pos2 : Pos} {k : Nat} (hc : X.calm = true) (T : PySem.SupX.SupCls X.prog X.w X.K X.mg x C fs P) (hr : Room k X.A) (tk : Takes X W) (ha : PA X (e :: es) ta) (hg : Gl X x := by rfl) (hx : (x == ("__debug__" : Str)) = false := by decide)
    (he : starEach (e :: es) X.env = (false, eval e X.env) :: starEach es X.env := by rfl) (hpl : (backTo pos (starEach es X.env)).any (·.1) = false := by rfl) :
    PS X (.Raise (some (.Call (.Name x p) (e :: es) [] pos)) none pos2) (tRaiseSup C fs P W ta) := ps_raise hc tk (pmk_sup T hr ha hg hx he hpl)
end
end L2
end
section
set_option Elab.async false
set_option linter.all false
set_option maxRecDepth 100000
set_option maxHeartbeats 2000000
namespace Sh
open PySem PySem.Spec PyProof.Rows L2
def top (i : Nat) : Stmt := PySem.Challenge.pw_shearyard_k52_cheapest_change.main.body.getD i (.Pass ⟨0, 0, 0, 0⟩)
/-- the built-ins and constants by their names -/
structure Bl (mg : Str → Option Value) : Prop where
  b_len : mg "len" = none
  b_range : mg "range" = none
  b_abs : mg "abs" = none
  b_int : mg "int" = none
  b_max : mg "max" = none
  b_all : mg "all" = none
  b_isinstance : mg "isinstance" = none
  b_set : mg "set" = none
  b_list : mg "list" = none
  b_tuple : mg "tuple" = none
  b_bool : mg "bool" = none
  b_str : mg "str" = none
  b_enumerate : mg "enumerate" = none
  c_MOST_KINDS : ∃ t, mg "MOST_KINDS" = some (.int 8 t)
  c_MOST_BRANCHES : ∃ t, mg "MOST_BRANCHES" = some (.int 3 t)
  c_MOST_KNOTS : ∃ t, mg "MOST_KNOTS" = some (.int 2000 t)
  c_LONGEST_NAME : ∃ t, mg "LONGEST_NAME" = some (.int 8 t)
  c_LETTERS : ∃ t, mg "LETTERS" = some (.str "abcdefghijklmnopqrstuvwxyz" t)
theorem pe_cI {X : Cx} {x : Str} {i : Int} {pos : Pos} (hg : Gl X x) (h : ∃ t, X.mg x = some (.int i t)) (hd : (x == ("__debug__" : Str)) = false := by decide) : PE X (.Name x pos) (tC (.int i)) := by
  obtain ⟨t, e⟩ := h
  exact pe_glob hg e ⟨t, rfl⟩ hd
theorem pe_cS {X : Cx} {x z : Str} {pos : Pos} (hg : Gl X x) (h : ∃ t, X.mg x = some (.str z t)) (hd : (x == ("__debug__" : Str)) = false := by decide) : PE X (.Name x pos) (tC (.str z)) := by
  obtain ⟨t, e⟩ := h
  exact pe_glob hg e ⟨t, rfl⟩ hd
/-- all that stood stands, but what is at a -/
def Kp (a : Addr) (H H' : Hp) : Prop := ∀ b o, H b = some o → b ≠ a → H' b = some o
theorem Kp.refl (a : Addr) (H : Hp) : Kp a H H := fun _ _ h _ => h
theorem Kp.trans {a : Addr} {H H1 H2 : Hp} (x : Kp a H H1) (y : Kp a H1 H2) : Kp a H H2 := fun b o h n => y b o (x b o h n) n
theorem Kp.upd {a : Addr} {H H1 : Hp} {o : HO} (x : Kp a H H1) : Kp a H (upd H1 a o) := fun b u h n => by rw [upd_ne n]; exact x b u h n
theorem Kp.same {a : Addr} {H H' : Hp} (x : Same H H') : Kp a H H' := fun b o h _ => x b o h
structure Bg (z0 z1 z2 z3 : Int) (cs : List Int) : Prop where
  lo : 4 ≤ z3
  hi : z3 ≤ 4 + cs.length
  sz : cs.length ≤ 63
  nn : ∀ c ∈ cs, 0 ≤ c
def bgL (z0 z1 z2 z3 : Int) (cs : List Int) : List V := .int z0 :: .int z1 :: .int z2 :: .int z3 :: cs.map V.int
def BagAt (H : Hp) (a : Addr) : Prop := ∃ z0 z1 z2 z3 cs, H a = some (.lst (bgL z0 z1 z2 z3 cs)) ∧ Bg z0 z1 z2 z3 cs
open C8 (pss_cut tCut)
open Evl (ixN_nat)
section
variable {P : Program} {w : World} {K : PySem.W.Frag} {mg : Str → Option Value} {base : Heap}
end
end Sh
end
section
set_option Elab.async false
set_option linter.all false
set_option maxRecDepth 100000
set_option maxHeartbeats 2000000
set_option autoImplicit false
namespace L2
open PySem PySem.Spec PyProof.Rows
/-- a tuple that is followed -/
def Tq (H : Hp) (a : Addr) (xs : List V) : Prop := Rd H a (.tup xs)
/-- .. whose object has no dict -/
def Tz (H : Hp) (a : Addr) (xs : List V) : Prop := ∃ o, H a = some (.frz o (.tup xs)) ∧ o.dict = none
theorem Tq.of {H : Hp} {a : Addr} {xs : List V} (h : H a = some (.tup xs)) : Tq H a xs := .inl h
theorem Tq.sq {K : PySem.W.Frag} {H : Hp} {a : Addr} {xs : List V} (h : Tq H a xs) : SqT K H a xs := .inl h
theorem Tq.same {H H' : Hp} {a : Addr} {xs : List V} (h : Tq H a xs) (s : ∀ b o, H b = some o → H' b = some o) : Tq H' a xs := by
  rcases h with h | ⟨o, h⟩
  · exact .inl (s _ _ h)
  · exact .inr ⟨o, s _ _ h⟩
theorem Tz.q {H : Hp} {a : Addr} {xs : List V} (h : Tz H a xs) : Tq H a xs := by
  obtain ⟨o, h, _⟩ := h
  exact .inr ⟨o, h⟩
theorem Tz.same {H H' : Hp} {a : Addr} {xs : List V} (h : Tz H a xs) (s : ∀ b o, H b = some o → H' b = some o) : Tz H' a xs := by
  obtain ⟨o, h, d⟩ := h
  exact ⟨o, s _ _ h, d⟩
theorem Tq.ne_none {H : Hp} {a p : Addr} {xs : List V} (h : Tq H a xs) (hp : H p = none) : a ≠ p := by
  rcases h with h | ⟨o, h⟩
  · exact ne_of_none h hp
  · exact ne_of_none h hp
/-- followed tuples stay -/
def TQ (H H' : Hp) : Prop := ∀ t xs, Tq H t xs → Tq H' t xs
theorem TQ.refl (H : Hp) : TQ H H := fun _ _ h => h
theorem TQ.trans {H H1 H2 : Hp} (x : TQ H H1) (y : TQ H1 H2) : TQ H H2 := fun t xs h => y t xs (x t xs h)
theorem TQ.of_same {H H' : Hp} (s : ∀ b o, H b = some o → H' b = some o) : TQ H H' := fun t xs q => q.same s
theorem TQ.new {H : Hp} {p : Addr} {o : HO} (h : H p = none) : TQ H (upd H p o) := fun t xs q => by
  have n := q.ne_none h
  rcases q with q | ⟨o, q⟩
  · exact .inl (by rw [upd_ne n]; exact q)
  · exact .inr ⟨o, by rw [upd_ne n]; exact q⟩
theorem TQ.lst {H : Hp} {p : Addr} {ys : List V} {o : HO} (h : H p = some (.lst ys)) : TQ H (upd H p o) := fun t xs q => by
  rcases q with q | ⟨o, q⟩
  · exact .inl (by rw [upd_ne (ne_of q h (by intro e; cases e))]; exact q)
  · exact .inr ⟨o, by rw [upd_ne (ne_of q h (by intro e; cases e))]; exact q⟩
section
variable {X : Cx}
end
end L2
end
section
set_option Elab.async false
set_option linter.all false
set_option maxRecDepth 100000
set_option maxHeartbeats 2000000
set_option autoImplicit false
namespace L2
open PySem PySem.Spec PyProof.Rows
/-- an exception that lies in the state s at hand, ahead of the clauses -/
structure Caught (X : Cx) (pins : List (Addr × Obj)) (σ : St) (H : Hp) (s : Shared) (a : Addr) (cls : Value) (d : Option Addr) : Prop where
  na : H a = none
  fly : ∃ B, HandSPX.FlyingZ B (X.env :: X.outer) a (Zc cls d) s.heap ∧ ∀ h, HandSPX.FlyingZ B (X.env :: X.outer) a (Zc cls d) h → s.heap.UpToSlots h → Inv X pins σ H { s with heap := h }
section
variable {X : Cx} {pins : List (Addr × Obj)} {σ : St} {H : Hp} {s : Shared} {a : Addr} {cls : Value} {d : Option Addr}
/-- into the suite of a clause -/
theorem suite_of {B : Heap} (hf : X.env.frame = some X.env.locals) (fl : HandSPX.FlyingZ B (X.env :: X.outer) a (Zc cls d) s.heap) (I : Inv X pins σ H s) (na : H a = none) :
    ∃ oe, (∃ vs, oe.data = .fields vs) ∧ s.heap.get? a = some oe ∧ Zc cls d oe ∧ Inv (X.suite a ((a, oe) :: (X.pn ++ pins))) [] σ H s := by
  obtain ⟨oe, vs, he, hz, hd⟩ := fl.there
  have off : ∀ f ∈ frs (X.env :: X.outer), a ≠ f := fun f hm e => by
    subst e
    obtain ⟨_, o, e2, nf⟩ := fl.2.2.1.mem hm
    rw [he] at e2
    cases e2
    exact nf _ hd
  refine ⟨oe, ⟨vs, hd⟩, he, hz, I.suite he hd na (off _ (List.mem_filterMap.mpr ⟨X.env, List.mem_cons_self, hf⟩)) fun hm => ?_⟩
  obtain ⟨en, hen, q⟩ := List.mem_filterMap.mp hm
  exact off a (List.mem_filterMap.mpr ⟨en, List.mem_cons_of_mem _ hen, q⟩) rfl
/-- a try statement by what its clauses do with what is caught -/
theorem ps_try_by {body : List Stmt} {hds : List ExceptHandler} {h₀ : ExceptHandler} {pos : Pos} {tb : WX → TS} {Wd : Ends → WX} (hs : X.stack = X.env :: X.outer) (hf : X.env.frame = some X.env.locals)
    (hb : ∀ (W : WX) (pn : List (Addr × Obj)) (xe : Value → Shared → Prop), Takes (X.tr pn xe) W → PassesOwn (model X.prog X.w) X.A X.env xe → PSs (X.tr pn xe) body (tb W))
    (hk : ∀ (pins : List (Addr × Obj)) (D : Ends) (σ : St) (H : Hp) (s : Shared) (a : Addr) (cls : Value) (d : Option Addr), X.Ok → Caught X pins σ H s a cls d → Wd D cls d σ H →
      wpAny (model X.prog X.w) X.A (handleBy (.ref a) X.env (h₀ :: hds)) (SP X pins D) X.xe s) :
    PS X (.Try body (h₀ :: hds) [] [] pos) (fun D σ H => tb (Wd D) D σ H) := by
  refine ⟨fun pins s σ H D I h => wpAny_Try_except ?_⟩
  have ok := I.ok
  have hfr : X.A.frames = some (X.env :: X.outer) := by rw [ok.frames, hs]
  have P := (hb (Wd D) (X.pn ++ pins) (fun e s₁ => wpAny (model X.prog X.w) X.A (noteFrame e X.env) (fun _ s₂ => wpAny (model X.prog X.w) X.A (setFlight e none) (fun _ s₃ =>
    wpAny (model X.prog X.w) X.A (handleBy e X.env (h₀ :: hds)) (SP X pins D) X.xe s₃) X.xe s₂) X.xe s₁) (fun u s' xx => by
      obtain ⟨a, B, sI, pins', σ', H', cls, d, rfl, J', nb, up, sky, na, os, ag, w⟩ := xx
      have sky' : Sky B (X.env :: X.outer) a (Zc cls d) X.env.locals s'.heap := by rw [← hs]; exact sky
      refine Sky.land Zc.steady hfr hf sky' fun h3 fl3 up3 => hk pins D σ' H' { s' with heap := h3 } a cls d ok ⟨na, B, fl3, fun h fl up4 => ?_⟩ w
      exact (J'.ofTry ok).landed nb fl.1 ((up.trans up3).trans up4) os ag) PassesOwn.looking).run [] s σ H D (I.toTry _) h
  refine wpAny_mono P (fun f s1 hsp => ?_) fun _ _ he => he
  cases f with
  | ret u =>
    obtain ⟨v, σ', H', J', r, q⟩ := hsp
    exact ⟨v, σ', H', J'.ofTry ok, r, q⟩
  | next =>
    obtain ⟨σ', H', J', q⟩ := hsp
    exact wpAny_execs_nil ⟨σ', H', J'.ofTry ok, q⟩
  | brk =>
    obtain ⟨σ', H', J', q⟩ := hsp
    exact ⟨σ', H', J'.ofTry ok, q⟩
  | cont =>
    obtain ⟨σ', H', J', q⟩ := hsp
    exact ⟨σ', H', J'.ofTry ok, q⟩
/-- the wish of a first clause 'except x as n' that takes it -/
def wFirst (K : PySem.W.Frag) (c : Value) (i : Nat) (ts : Addr → Value → Option Addr → TS) (D : Ends) : WX := fun cls d σ H =>
  PySem.W.exmOne K cls c = some true ∧ ∀ a, H a = none → ts a cls d { nx := fun σ' H' => D.nx (σ'.set i none) H', rt := D.rt, bk := fun σ' H' => D.bk (σ'.set i none) H', ct := fun σ' H' => D.ct (σ'.set i none) H' } (σ.set i (some (.ref a))) H
theorem ps_try_first {x n : Str} {c : Value} {i : Nat} {body suite : List Stmt} {b₀ : Stmt} {np pos pos' : Pos} {hds : List ExceptHandler} {tb : WX → TS} {ts : Addr → Value → Option Addr → TS} (hs : X.stack = X.env :: X.outer) (hf : X.env.frame = some X.env.locals) (hN : X.N.Nodup) (hi : X.N[i]? = some n) (hln : X.env.kindOf n = some .local) (hc : Names X x c)
    (hb : ∀ (W : WX) (pn : List (Addr × Obj)) (xe : Value → Shared → Prop), Takes (X.tr pn xe) W → PassesOwn (model X.prog X.w) X.A X.env xe → PSs (X.tr pn xe) body (tb W))
    (hsu : ∀ (a : Addr) (oe : Obj) (cls : Value) (d : Option Addr) (pn : List (Addr × Obj)), Zc cls d oe → (∃ vs, oe.data = .fields vs) → PSs (X.suite a ((a, oe) :: pn)) (b₀ :: suite) (ts a cls d)) :
    PS X (.Try body (.ExceptHandler (some (.Name x np)) (some n) (b₀ :: suite) pos' :: hds) [] [] pos) (fun D σ H => tb (wFirst X.K c i ts D) D σ H) := by
  refine ps_try_by (Wd := wFirst X.K c i ts) hs hf hb fun pins D σ H s a cls d ok C w => ?_
  obtain ⟨na, B, fl, back⟩ := C
  obtain ⟨hm, hw⟩ := w
  have I0 : Inv X pins σ H s := back s.heap fl (fun b o e _ => ⟨o.slots, e⟩)
  obtain ⟨oe, hd, he, hz, S⟩ := suite_of hf fl I0 na
  refine wpAny_handleBy_cons (codeAny_handlers_test ?_) (by intro q; cases q)
  have look : PySem.W.Looks (model X.prog X.w) s.heap (typeOf (.ref a)) cls := fun A Q E s k q => wpAny_typeOf_ref (k _ _ he) (by rw [hz.1]; exact q)
  have name : ∀ {Q : Value → Shared → Prop} {E : Value → Shared → Prop}, Q c s → wpAny (model X.prog X.w) (X.A.mark (some (.ref a))) (eval (.Name x np) X.env) Q E s := fun {Q E} q => by
    obtain ⟨hg, hdbg, hm | ⟨hm, hv, hnn⟩⟩ := hc
    · exact ld_glob (X := X.suite a ((a, oe) :: (X.pn ++ pins))) S hg hm q hdbg
    · exact ld_blt (X := X.suite a ((a, oe) :: (X.pn ++ pins))) S hg hm hv q hnn hdbg
  refine name ((PySem.W.exm_one (M := model X.prog X.w) I0.kIn look hm).here (codeAny_handlers_suite_as ?_))
  refine HandSPX.lands_againZ fl fun h4 fl4 up4 => ?_
  obtain ⟨oe4, hd4, _, hz4, S4⟩ := suite_of (s := { s with heap := h4 }) hf fl4 (back h4 fl4 up4) na
  refine store_ok (X := X.suite a ((a, oe4) :: (X.pn ++ pins))) (v := .ref a) S4 hN hi (.inl hln) rfl (fun s5 S5 => ?_) (.inr hln)
  have R := (hsu a oe4 cls d (X.pn ++ pins) hz4 hd4).run [] s5 _ H _ S5 (hw a na)
  refine wpAny_mono R (fun f s6 hsp => ?_) fun _ _ z => z.elim
  cases f with
  | ret u =>
    obtain ⟨v6, σ6, H6, S6, r6, q6⟩ := hsp
    exact gone_ok (S6.unsuite ok) hN hi hln fun s7 J7 => ⟨_, _, _, J7, r6, q6⟩
  | next =>
    obtain ⟨σ6, H6, S6, q6⟩ := hsp
    exact gone_ok (S6.unsuite ok) hN hi hln fun s7 J7 => ⟨_, _, J7, q6⟩
  | brk =>
    obtain ⟨σ6, H6, S6, q6⟩ := hsp
    exact gone_ok (S6.unsuite ok) hN hi hln fun s7 J7 => ⟨_, _, J7, q6⟩
  | cont =>
    obtain ⟨σ6, H6, S6, q6⟩ := hsp
    exact gone_ok (S6.unsuite ok) hN hi hln fun s7 J7 => ⟨_, _, J7, q6⟩
end
end L2
namespace Sh
open PySem PySem.Spec PyProof.Rows L2
/-- an own exception class in except clauses -/
structure XOk (K : PySem.W.Frag) (C : Addr) (fs : List Str) : Prop where
  xf : XfC K C
  no : ∀ f ∈ fs, PySem.W.findIn K (.ref C) f = some none
  me : PySem.W.exmOne K (.ref C) (.ref C) = some true
/-- a call whose exceptions are wished for at the slots at hand -/
theorem pe_dS {X : Cx} {CX : CXT} {E : L2.St → XK} {k : Nat} {x : Str} {sp : Sp} {e : Expr} {es : List Expr} {t : TA} {p pos : Pos} (D : DefOk X.prog X.w X.K X.mg X.base CX k x sp) (hr : Room k X.A) (hx : ∀ σ, PassesAt CX X σ (E σ)) (ha : PA X (e :: es) t)
    (hg : Gl X x := by rfl) (hd : (x == ("__debug__" : Str)) = false := by decide)
    (he : starEach (e :: es) X.env = (false, eval e X.env) :: starEach es X.env := by rfl) (hpl : (backTo pos (starEach es X.env)).any (·.1) = false := by rfl) :
    PE X (.Call (.Name x p) (e :: es) [] pos) (tCallS sp E t) := by
  obtain ⟨f, hm, hk, F⟩ := D
  refine ⟨fun pins s σ H Q I h => ?_⟩
  refine wpAny_Call_Name_kw (ld_glob I hg hm ?_ hd)
  refine PySem.W.callWith_K (h₀ := X.base) I.ok.mod.kin hk (thn (ha.run pos pins s σ H _ I h) fun us s1 ⟨vs, H1, I1, r, q⟩ => ⟨I1.kIn, ?_⟩) he hpl
  refine wpAny_call (codeAny_mono (F X.A X.stack s1 H1 us vs Q (E σ) hr I1.env0 r q) fun r s' hq => ?_)
  cases r with
  | error e => exact hx σ pins H1 s1 e s' I1 hq
  | ok fl =>
    cases fl with
    | ret u => exact I1.after hq
    | next => exact hq.elim
    | brk => exact hq.elim
    | cont => exact hq.elim
end Sh
end
section
set_option Elab.async false
set_option linter.all false
set_option maxRecDepth 100000
set_option maxHeartbeats 2000000
set_option autoImplicit false
namespace Hx
open PySem PySem.Spec PyProof.Rows L2 He PySem.W
/-- an own exception class: its name, its fields, its __init__ as written -/
structure XDef where
  x : Str
  fs : List Str
  qual : Str
  params : Arguments
  body : List Stmt
  scope : Scope
abbrev XV : Type := Option (Str × Str × Arguments × FuncBody × Scope × Addr × Addr)
def iOf (K : Frag) (x : Str) : Addr := ma K (ga K x) "__init__"
def xvOf (K : Frag) (x : Str) : XV := match K.lookup (iOf K x) with
  | some ⟨_, _, .func fd, _⟩ => some (fd.name, fd.qualname, fd.params, fd.body, fd.scope, fd.globals, fd.builtins)
  | _ => none
def XDef.val (d : XDef) : XV := some ("__init__", d.qual, d.params, .stmts d.body, d.scope, mainGlobals, builtinsNs)
def cellB (K : Frag) (C : Addr) (cl : List (Str × Addr)) : Bool := match cl with
  | [(n, cc)] => decide (n = "__class__") && (match K.lookup cc with
    | some ⟨_, _, .cell (some (.ref D)), _⟩ => decide (D = C)
    | _ => false)
  | _ => false
def codeB (K : Frag) (file : Str) (cd : Value) : Bool := match cd with
  | .ref cda => (match K.lookup cda with
    | some ⟨_, _, .fields cvs, _⟩ => (match (cvs[2]? : Option Value) with
      | some (.str f _) => file == f
      | _ => false)
    | _ => false)
  | _ => false
def noneB (v : Value) : Bool := match v with
  | .none => true
  | _ => false
def funB (K : Frag) (file : Str) (d : XDef) : Bool := match K.lookup (iOf K d.x) with
  | some ⟨_, _, .func fd, _⟩ => noneB fd.defaults && (codeIn K fd.code d.qual && (codeB K file fd.code && cellB K (ga K d.x) fd.closure))
  | _ => false
def clsB (K : Frag) (C : Addr) : Bool := match K.lookup C with
  | some ⟨.type "type", _, .cls cd, sl⟩ => (match cd.mro, sl.toList with
    | .ref C' :: bm, [_, _, _, _, some (.builtin n), _] => decide (C' = C) && (decide (n = "ValueError.__new__") && (!cd.hasDel && (cd.hasDict && HandSPX.refsVE bm)))
    | _, _ => false)
  | _ => false
def XDef.ok (file : Str) (K : Frag) (d : XDef) : Bool :=
  clsB K (ga K d.x) && (funB K file d && (eqO (findIn K (.ref (ga K d.x)) "__setattr__") (some (some (.builtin "object.__setattr__"))) && ((d.fs.all fun f => eqO (findIn K (.ref (ga K d.x)) f) (some none)) &&
  (eqO (findIn K (.ref (ga K d.x)) "__init__") (some (some (.ref (iOf K d.x)))) && (decide (typeIn K (.ref (iOf K d.x)) = some (.type "function")) && (keepIn K (.ref (ga K d.x)) && (decide (subIn K (.ref (ga K d.x)) (.type "BaseException") = some true) &&
  (decide (subIn K (.ref (ga K d.x)) (.type "ValueError") = some true) && (decide (typeIn K (.ref (ga K d.x)) = some (.type "type")) && (decide (mroIn K (ga K d.x) (.ref (ga K d.x)) = some true) && (eqO (ks_superIn K (ga K d.x) (ga K d.x) "__init__") (some (some (.builtin "ValueError.__init__"))) &&
  (eqO (nsIn K cStatics "thirdparty.any") (some none) && (L2.xfB K (ga K d.x) && (decide (exmOne K (.ref (ga K d.x)) (.ref (ga K d.x)) = some true) && eqO (nsIn K mainGlobals d.x) (some (some (.ref (ga K d.x))))))))))))))))))
structure XFacts (prog : Program) (K : Frag) (d : XDef) (l : List SupX.StP) : Prop where
  txt : SupX.SupTxt prog K (ga K d.x) (iOf K d.x) d.qual d.params d.body d.scope l
  xf : L2.XfC K (ga K d.x)
  no : ∀ f ∈ d.fs, findIn K (.ref (ga K d.x)) f = some none
  me : exmOne K (.ref (ga K d.x)) (.ref (ga K d.x)) = some true
  gl : nsIn K mainGlobals d.x = some (some (.ref (ga K d.x)))
theorem facts_of {prog : Program} {K : Frag} {d : XDef} {l : List SupX.StP} (e : xvOf K d.x = d.val) (c : d.ok prog.main.file K = true) (hl : ∀ z ∈ l, z.f ∈ d.fs) : XFacts prog K d l := by
  unfold XDef.ok at c
  obtain ⟨c1, c⟩ := ba c
  obtain ⟨c2, c⟩ := ba c
  obtain ⟨c3, c⟩ := ba c
  obtain ⟨c4, c⟩ := ba c
  obtain ⟨c5, c⟩ := ba c
  obtain ⟨c6, c⟩ := ba c
  obtain ⟨c7, c⟩ := ba c
  obtain ⟨c8, c⟩ := ba c
  obtain ⟨c9, c⟩ := ba c
  obtain ⟨c10, c⟩ := ba c
  obtain ⟨c11, c⟩ := ba c
  obtain ⟨c12, c⟩ := ba c
  obtain ⟨c13, c⟩ := ba c
  obtain ⟨c14, c⟩ := ba c
  obtain ⟨c15, c16⟩ := ba c
  have no : ∀ f ∈ d.fs, findIn K (.ref (ga K d.x)) f = some none := fun f hf => eqO_ok (List.all_eq_true.mp c4 f hf)
  refine ⟨⟨?_, eqO_ok c3, fun z hz => no _ (hl z hz), eqO_ok c5, of_decide_eq_true c6, c7, of_decide_eq_true c8, of_decide_eq_true c9, of_decide_eq_true c10, of_decide_eq_true c11, eqO_ok c12, eqO_ok c13, ?_⟩, L2.xfB_ok c14, no, of_decide_eq_true c15, eqO_ok c16⟩
  · unfold clsB at c1
    split at c1
    · rename_i dd cd sl ho
      split at c1
      · rename_i C' bm k0 k1 k2 k3 n k5 hm hs
        obtain ⟨y1, y⟩ := ba c1
        obtain ⟨y2, y⟩ := ba y
        obtain ⟨y3, y⟩ := ba y
        obtain ⟨y4, y5⟩ := ba y
        have y1 := of_decide_eq_true y1
        have y2 := of_decide_eq_true y2
        have y3' : cd.hasDel = false := by
          cases h : cd.hasDel with
          | false => rfl
          | true => rw [h] at y3; cases y3
        clear y3
        obtain ⟨nm, bs, mro, ns, qn, hd, sn, sub, ab, col, del⟩ := cd
        dsimp only at hm y3' y4
        subst y1 y2 hm y3' y4
        have hsl : sl = #[k0, k1, k2, k3, some (.builtin "ValueError.__new__"), k5] := by
          obtain ⟨l⟩ := sl
          simp only at hs
          rw [hs]
        subst hsl
        exact ⟨nm, qn, ns, bs, bm, sn, sub, ab, col, dd, k0, k1, k2, k3, k5, ho, y5⟩
      · cases c1
    · cases c1
  · unfold funB at c2
    unfold xvOf at e
    cases q : K.lookup (iOf K d.x) with
    | none =>
      rw [q] at c2
      cases c2
    | some o =>
      obtain ⟨oc, od, dt, osl⟩ := o
      rw [q] at c2 e
      cases dt with
      | func fd =>
        obtain ⟨n1, n2, n3, n4, n5, n6, n7, n8, n9, n10, n11, n12, n13, n14, n15⟩ := fd
        have e2 : (some (n1, n2, n3, n4, n5, n6, n15) : XV) = (some (("__init__" : Str), d.qual, d.params, FuncBody.stmts d.body, d.scope, mainGlobals, builtinsNs) : XV) := e
        simp only [Option.some.injEq, Prod.mk.injEq] at e2
        obtain ⟨h1, h2, h3, h4, h5, h6, h8⟩ := e2
        subst h1 h2 h3 h4 h5 h6 h8
        have c3 : (noneB n8 && (codeIn K n13 d.qual && (codeB K prog.main.file n13 && cellB K (ga K d.x) n7))) = true := c2
        obtain ⟨k1, k2⟩ := ba c3
        obtain ⟨k3, k4⟩ := ba k2
        obtain ⟨k5, k6⟩ := ba k4
        have hn8 : n8 = .none := by
          cases n8 with
          | none => rfl
          | _ => cases k1
        subst hn8
        unfold codeB at k5
        unfold cellB at k6
        split at k5
        · rename_i cda
          split at k5
          · rename_i ccl cdd cvs ccs hcda
            split at k5
            · rename_i f tf hf
              split at k6
              · rename_i n cc
                obtain ⟨z1, z2⟩ := ba k6
                have z1 := of_decide_eq_true z1
                subst z1
                split at z2
                · rename_i cl cld D csl hcc
                  have z2 := of_decide_eq_true z2
                  subst z2
                  exact ⟨oc, od, osl, n9, n10, n11, n12, cda, n14, cc, ccl, cdd, cvs, ccs, f, tf, cl, cld, csl, rfl, k3, hcda, hf, k5, hcc⟩
                · cases z2
              · cases k6
            · cases k5
          · cases k5
        · cases k5
      | _ => cases c2
theorem x_of {file : Str} {K : Frag} {xs : List XDef} (h1 : (xs.all fun d => d.ok file K) = true) (h2 : (xs.map fun d => xvOf K d.x) = xs.map XDef.val) (i : Nat) {d : XDef} (h : xs[i]? = some d := by rfl) : xvOf K d.x = d.val ∧ d.ok file K = true := by
  refine ⟨?_, List.all_eq_true.mp h1 d (List.mem_of_getElem? h)⟩
  have e2 : (xs.map fun d => xvOf K d.x)[i]? = (xs.map XDef.val)[i]? := by rw [h2]
  rw [List.getElem?_map, List.getElem?_map, h] at e2
  exact Option.some.inj e2
end Hx
end
section
set_option linter.all false
set_option autoImplicit false
namespace Mth
variable {α : Type} (w : α → Nat)
/-- n plants one behind the other, and nothing else -/
def forest : List α → Nat → Bool
  | [], n => n == 0
  | _ :: _, 0 => false
  | k :: r, n + 1 => forest r (w k + n)
/-- behind n plants -/
def skip : List α → Nat → List α
  | [], _ => []
  | k :: r, 0 => k :: r
  | k :: r, n + 1 => skip r (w k + n)
theorem forest_skip : ∀ (l : List α) (a b : Nat), forest w l (a + b) = true → forest w (skip w l a) b = true
  | [], a, b, h => by
    have e : a + b = 0 := eq_of_beq h
    have e2 : b = 0 := by omega
    rw [e2]; rfl
  | k :: r, 0, b, h => by rw [Nat.zero_add] at h; exact h
  | k :: r, a + 1, b, h => by
    rw [show a + 1 + b = (a + b) + 1 by omega] at h
    have h2 : forest w r (w k + (a + b)) = true := h
    show forest w (skip w r (w k + a)) b = true
    exact forest_skip r (w k + a) b (by rw [Nat.add_assoc]; exact h2)
theorem skip_suffix : ∀ (l : List α) (n : Nat), ∃ j, j ≤ l.length ∧ skip w l n = l.drop j
  | [], _ => ⟨0, Nat.le_refl _, rfl⟩
  | k :: r, 0 => ⟨0, Nat.zero_le _, rfl⟩
  | k :: r, n + 1 => by
    obtain ⟨j, hj, e⟩ := skip_suffix r (w k + n)
    exact ⟨j + 1, by rw [List.length_cons]; omega, e⟩
theorem forest_zero {l : List α} (h : forest w l 0 = true) : l = [] := by
  cases l with
  | nil => rfl
  | cons _ _ => cases h
theorem forest_pos {l : List α} {n : Nat} (h : forest w l (n + 1) = true) : l ≠ [] := fun e => by
  rw [e] at h
  exact absurd (eq_of_beq h : n + 1 = 0) (by omega)
/-- the place behind n plants from place i on -/
def nxs (l : List α) (i n : Nat) : Nat := l.length - (skip w (l.drop i) n).length
theorem drop_nxs (l : List α) (i n : Nat) : l.drop (nxs w l i n) = skip w (l.drop i) n := by
  obtain ⟨j, hj, e⟩ := skip_suffix w (l.drop i) n
  unfold nxs
  rw [e, List.drop_drop, List.length_drop]
  rw [List.length_drop] at hj
  by_cases h : i ≤ l.length
  · rw [show l.length - (l.length - (i + j)) = i + j by omega]
  · rw [List.drop_eq_nil_of_le (by omega), List.drop_eq_nil_of_le (by omega)]
theorem nxs_le (l : List α) (i n : Nat) : nxs w l i n ≤ l.length := Nat.sub_le _ _
/-- m plants stand from place i to the end -/
def Fst (l : List α) (i m : Nat) : Prop := i ≤ l.length ∧ forest w (l.drop i) m = true
theorem Fst.lt {l : List α} {i m : Nat} (h : Fst w l i (m + 1)) : i < l.length := by
  refine Nat.lt_of_not_le fun q => ?_
  have e := h.2
  rw [List.drop_eq_nil_of_le q] at e
  exact forest_pos w e rfl
theorem Fst.skip {l : List α} {i a b : Nat} (h : Fst w l i (a + b)) : Fst w l (nxs w l i a) b :=
  ⟨nxs_le w l i a, by rw [drop_nxs]; exact forest_skip w _ a b h.2⟩
theorem Fst.in {l : List α} {i m : Nat} {k : α} (h : Fst w l i (m + 1)) (hk : l[i]? = some k) : Fst w l (i + 1) (w k + m) := by
  have hi := (List.getElem?_eq_some_iff.mp hk).1
  have e := h.2
  have d : l.drop i = k :: l.drop (i + 1) := by
    rw [List.drop_eq_getElem_cons hi]
    have := (List.getElem?_eq_some_iff.mp hk).2
    rw [this]
  rw [d] at e
  exact ⟨hi, e⟩
theorem Fst.all {l : List α} (h : forest w l 1 = true) : ∀ i, i ≤ l.length → ∃ m, Fst w l i m
  | 0, _ => ⟨1, Nat.zero_le _, by rw [List.drop_zero]; exact h⟩
  | i + 1, hi => by
    obtain ⟨m, F⟩ := Fst.all h i (by omega)
    cases m with
    | zero =>
      have z := forest_zero w F.2
      have := congrArg List.length z
      rw [List.length_drop] at this
      simp at this
      omega
    | succ m => exact ⟨_, F.in w (List.getElem?_eq_getElem (by omega))⟩
theorem Fst.pos {l : List α} {i m : Nat} (h : Fst w l i m) (hi : i < l.length) : ∃ n, m = n + 1 := by
  cases m with
  | succ n => exact ⟨n, rfl⟩
  | zero =>
    have z := forest_zero w h.2
    have := congrArg List.length z
    rw [List.length_drop] at this
    simp at this
    omega
def kids (p : List Nat) (n : Nat) : List (List Nat) := (List.range n).map fun i => p ++ [i]
/-- the paths that wait ahead of place i -/
def stk (l : List α) : Nat → List (List Nat)
  | 0 => [[]]
  | i + 1 => match stk l i, l[i]? with
    | p :: st, some k => kids p (w k) ++ st
    | st, _ => st
/-- where a path leads, from a place -/
def walk (l : List α) : Nat → List Nat → Option Nat
  | p, [] => some p
  | p, c :: cs => match l[p]? with
    | some k => if c < w k then walk l (nxs w l (p + 1) c) cs else none
    | none => none
end Mth
namespace Mth
variable {α : Type} (w : α → Nat)
end Mth
end
section
set_option Elab.async false
set_option linter.all false
set_option maxRecDepth 100000
set_option maxHeartbeats 4000000
set_option autoImplicit false
namespace L2
open PySem PySem.Spec PyProof.Rows
section
variable {X : Cx}
/-- l.extend(t), t a tuple -/
theorem list_extend_tupD (l : Addr) (items : Array Value) (n : Nat) (b : Addr) (items2 : Array Value) (n2 : Nat) (dd : Option Addr) (sl : Array (Option Value)) (hs0 : ¬(!items.isEmpty && Builtin.List.listTooLong (items.size + items2.size)) = true) (hs1 : items.size ≤ sizeLine) (hs2 : items.size + items2.size ≤ sizeLine + 1) :
    Meets (Builtin.«list.extend» ⟨[.ref l, .ref b], []⟩) (fun _ R s => s.heap.get? l = some { cls := .type "list", dict := none, data := .seq items n, slots := #[] } ∧ s.heap.get? b = some { cls := .type "tuple", dict := dd, data := .seq items2 n2, slots := sl } ∧ R (.ok (.ret Value.none)) { s with heap := s.heap.update l (Obj.mapSeq fun x => x ++ items2), toks := s.toks }) :=
  .of_wp fun prog w A R s h => by
    obtain ⟨hp, g, d, tk, os⟩ := s; obtain ⟨hl, hb, h⟩ := h; have f1 := AutoSeq1.idx_int; have f2 := AutoSeq1.sub_tuple_tuple; have f3 := AutoSeq1.sub_list_list; have f4 := AutoSeq1.sub_tuple_list; have f5 := AutoSeq1.sub_list_tuple;
    have hz' : (items ++ items2).size ≤ sizeLine + 1 := by rw [Array.size_append]; exact hs2
    wp_walk using (wpAny_updateSeq hl rfl (hz := hs1) (_hz' := hz')), wpAny_loadPart' hl, wpAny_loadPart' hb; exact ⟨_, rfl, h⟩
def rExtendT (K : PySem.W.Frag) : V → List V → Hp → VK → Prop := fun x vs H Q => ∃ l b xs zs, x = .ref l ∧ vs = [.ref b] ∧ H l = some (.lst xs) ∧ SqT K H b zs ∧ xs.length + zs.length ≤ sizeLine ∧ Q .non (upd H l (.lst (xs ++ zs)))
theorem mt_extendT : MtM X "list.extend" (rExtendT X.K) := by
  intro pins s σ H x vs v us Q I rx rv h
  obtain ⟨l, b, xs, zs, rfl, rfl, hH, hB, hz, q⟩ := h
  cases rx
  obtain ⟨u, rfl, ru⟩ := rv.one
  cases ru
  obtain ⟨z, its, n, r, hl, e⟩ := I.lstM hH
  obtain ⟨its2, r2, ⟨⟨cls, dd, data, sl⟩, e2, hc, n2, hd⟩, hl2⟩ := I.tuple hB
  simp only at hc hd
  subst hc hd
  have h2 := r2.length
  have h1 := r.length
  have hsz : its.toArray.size + its2.toArray.size ≤ sizeLine := by rw [List.size_toArray, List.size_toArray]; omega
  have hlong : ¬ (!its.toArray.isEmpty && Builtin.List.listTooLong (its.toArray.size + its2.toArray.size)) = true := by
    rw [notLongL hsz, Bool.and_false]
    exact Bool.false_ne_true
  refine call_meets F.slot_list_extend ⟨_, e, rfl⟩ F.entry_list_extend (F.args_list_extend_2 _ _)
    (list_extend_tupD l its.toArray n b its2.toArray n2 dd sl hlong (by rw [List.size_toArray]; omega) (by omega)) ⟨e, e2, ?_⟩
  refine ⟨.non, _, I.lset (its' := its ++ its2) hH e (by simp) (r.append r2) ?_, rfl, q⟩
  rw [List.length_append]
  omega
/-- isinstance(e, c), e the exception that the suite holds, whatever it has in its dict -/
structure ExcD (K : PySem.W.Frag) (D : Addr) : Prop where
  c : ExcC K D
  cl : (PySem.W.clsIn K D).isSome = true
end
end L2
end
section
set_option Elab.async false
set_option linter.all false
set_option maxRecDepth 100000
set_option maxHeartbeats 2000000
set_option autoImplicit false
namespace Hx
open PySem PySem.Spec PyProof.Rows L2 He PySem.W
def exB (K : Frag) (C : Addr) : Bool := xfB K C && (eqO (findIn K (.ref C) "__class__") (some (some (.builtin "object.__class__"))) && (eqO (specialIn K (.builtin "object.__class__") "__get__") (some (some (.builtin "getset_descriptor.__get__"))) && (decide (takesIn K (.builtin "object.__class__") = some true) && (decide (mroIn K C (.type "object") = some true) && (clsIn K C).isSome))))
theorem exB_ok {K : Frag} {C : Addr} (h : exB K C = true) : ExcD K C := by
  unfold exB at h
  obtain ⟨h1, h⟩ := ba h
  obtain ⟨h2, h⟩ := ba h
  obtain ⟨h3, h⟩ := ba h
  obtain ⟨h4, h⟩ := ba h
  obtain ⟨h5, h6⟩ := ba h
  have f := xfB_ok h1
  exact ⟨⟨f.ga, f.gg, f.exC, f.hdC, eqO_ok h2, eqO_ok h3, of_decide_eq_true h4, of_decide_eq_true h5⟩, h6⟩
def yB (K : Frag) (base : Str) (ns : List Str) (x : Str) : Bool := exB K (ga K x) && (decide (kitOne K (.ref (ga K x)) (.type "ValueError") = some true) && (decide (exmOne K (.ref (ga K x)) (.ref (ga K base)) = some true) && ns.all fun y => decide (kitOne K (.ref (ga K x)) (.ref (ga K y)) = some (decide (x = y)))))
structure YFacts (K : Frag) (base : Str) (ns : List Str) (x : Str) : Prop where
  ex : ExcD K (ga K x)
  kv : kitOne K (.ref (ga K x)) (.type "ValueError") = some true
  me : exmOne K (.ref (ga K x)) (.ref (ga K base)) = some true
  ki : ∀ y ∈ ns, kitOne K (.ref (ga K x)) (.ref (ga K y)) = some (decide (x = y))
theorem yB_ok {K : Frag} {base : Str} {ns : List Str} {x : Str} (h : yB K base ns x = true) : YFacts K base ns x := by
  unfold yB at h
  obtain ⟨h1, h⟩ := ba h
  obtain ⟨h2, h⟩ := ba h
  obtain ⟨h3, h4⟩ := ba h
  exact ⟨exB_ok h1, of_decide_eq_true h2, of_decide_eq_true h3, fun y hy => of_decide_eq_true (List.all_eq_true.mp h4 y hy)⟩
/-- what can be reached in n steps, twice told where it is reached twice -/
def bfs (g : Addr → Option Obj) : Nat → List Addr → List Addr
  | 0, l => l
  | n + 1, l => l ++ bfs g n (l.flatMap fun a => match g a with
    | some o => refsD o
    | none => [])
def frY (n : Nat) (g : Addr → Option Obj) : Frag := frG g (bfs g n [mainGlobals] ++ [cStatics])
abbrev AlY : Type := (AlD × (Bool × List XV)) × Bool
end Hx
end
section
set_option Elab.async false
set_option linter.all false
set_option maxRecDepth 100000
set_option maxHeartbeats 2000000
set_option autoImplicit false
namespace Hx
open PySem PySem.Spec PyProof.Rows L2 He PySem.W
def zB (K : Frag) (base : Str) (ns : List Str) (x : Str) : Bool := yB K base ns x && (decide (kitOne K (.ref (ga K x)) (.ref (ga K base)) = some true) && ns.all fun y => decide (exmOne K (.ref (ga K x)) (.ref (ga K y)) = some (decide (x = y))))
structure ZFacts (K : Frag) (base : Str) (ns : List Str) (x : Str) : Prop extends YFacts K base ns x where
  ky : kitOne K (.ref (ga K x)) (.ref (ga K base)) = some true
  em : ∀ y ∈ ns, exmOne K (.ref (ga K x)) (.ref (ga K y)) = some (decide (x = y))
theorem zB_ok {K : Frag} {base : Str} {ns : List Str} {x : Str} (h : zB K base ns x = true) : ZFacts K base ns x := by
  unfold zB at h
  obtain ⟨h1, h⟩ := ba h
  obtain ⟨h2, h3⟩ := ba h
  exact ⟨yB_ok h1, of_decide_eq_true h2, fun y hy => of_decide_eq_true (List.all_eq_true.mp h3 y hy)⟩
def obsZ (file : Str) (n : Nat) (fa : List Fa) (fn : List DefD) (xs : List XDef) (base : Str) (ns : List Str) (g : Addr → Option Obj) : AlY :=
  ((obsD fa fn (frY n g), (xs.all fun d => d.ok file (frY n g), xs.map fun d => xvOf (frY n g) d.x)), ns.all fun x => zB (frY n g) base ns x)
def hookZ (file : Str) (n : Nat) (fa : List Fa) (fn : List DefD) (xs : List XDef) (base : Str) (ns : List Str) : PySem.W.Hook where
  α := AlY
  obs := fun s => obsZ file n fa fn xs base ns s.heap.get?
  val := fun _ => ((valD fn, (true, xs.map XDef.val)), true)
  says := fun _ h => ∃ K : Frag, K.In h ∧ SaysD fa fn K ∧ (xs.all fun d => d.ok file K) = true ∧ (xs.map fun d => xvOf K d.x) = xs.map XDef.val ∧ (ns.all fun x => zB K base ns x) = true
  of := fun _ _ e => ⟨_, frG_in, congrArg (fun z : AlY => z.1.1) e, congrArg (fun z : AlY => z.1.2.1) e, congrArg (fun z : AlY => z.1.2.2) e, congrArg (fun z : AlY => z.2) e⟩
  keeps := fun _ _ _ ⟨K, hK, c⟩ k => ⟨K, PySem.W.Frag.In.keeps hK k, c⟩
theorem obsZ_eq {file : Str} {n : Nat} {fa : List Fa} {fn : List DefD} {xs : List XDef} {base : Str} {ns : List Str} {g : Addr → Option Obj} {s : Shared} (h : ∀ a, g a = s.heap.get? a) : obsZ file n fa fn xs base ns g = (hookZ file n fa fn xs base ns).obs s := by
  have e : g = s.heap.get? := funext h
  rw [e] <;> rfl
end Hx
end
section
set_option Elab.async false
set_option linter.all false
set_option maxRecDepth 100000
namespace Sh
open PySem PySem.Spec PyProof.Rows L2
abbrev s_all_letters : Stmt := top 19
abbrev s_is_name : Stmt := top 20
abbrev s_check_pairs : Stmt := top 23
abbrev s_init__ : Stmt := inClass (top 25) 0
abbrev s_check_size : Stmt := top 30
abbrev s_fault_place : Stmt := top 31
abbrev s_check_plant : Stmt := top 33
abbrev s_law_cell : Stmt := top 53
abbrev s_law_box : Stmt := top 54
abbrev s_law_pick : Stmt := top 55
abbrev s_law_number : Stmt := top 67
abbrev s_law_letters : Stmt := top 56
abbrev s_law_kinds : Stmt := top 57
abbrev s_law_arity : Stmt := top 58
abbrev s_law_made_bed : Stmt := top 59
abbrev s_law_integer : Stmt := top 74
abbrev s_law_swaps : Stmt := top 68
abbrev s_is_price : Stmt := top 49
abbrev s_check_swaps : Stmt := top 48
abbrev s_Prices_init__ : Stmt := inClass (top 50) 0
abbrev s_law_made_prices : Stmt := top 69
abbrev s_same : Stmt := inClass (top 25) 6
abbrev s_law_plant : Stmt := top 63
abbrev s_law_chain : Stmt := top 64
abbrev s_law_spoilt : Stmt := top 66
abbrev s_law_fault : Stmt := top 65
abbrev s_Forest_node_for : Stmt := inClass (top 41) 1
abbrev s_Forest_init__ : Stmt := inClass (top 41) 0
abbrev s_law_tuples : Stmt := top 60
abbrev s_law_ways : Stmt := top 73
abbrev s_rows_from : Stmt := top 28
abbrev s_law_reader : Stmt := top 61
abbrev s_check_states : Stmt := top 35
abbrev s_are_states : Stmt := top 37
abbrev s_check_marks : Stmt := top 38
abbrev s_rows_by_kind : Stmt := top 36
abbrev s_Reader_init__ : Stmt := inClass (top 39) 0
abbrev s_law_made_reader : Stmt := top 62
abbrev s_law_rank : Stmt := top 70
abbrev s_law_lesser : Stmt := top 71
abbrev s_law_steps : Stmt := top 72
abbrev s_law_offer : Stmt := top 75
abbrev s_law_knot : Stmt := top 76
abbrev s_law_due : Stmt := top 77
abbrev s_entries_of : Stmt := top 42
abbrev s_Changer_is_before : Stmt := inClass (top 44) 5
abbrev s_Changer_is_better : Stmt := inClass (top 44) 4
abbrev s_Changer_offer : Stmt := inClass (top 44) 3
abbrev s_leaves : Stmt := inClass (top 25) 3
abbrev s_check_beds : Stmt := top 24
abbrev s_Changer_table_above : Stmt := inClass (top 44) 2
abbrev s_Changer_tables_of : Stmt := inClass (top 44) 1
abbrev s_Changer_init__ : Stmt := inClass (top 44) 0
abbrev s_cheapest_change : Stmt := top 45
abbrev s_cheapest : Stmt := top 51
abbrev s_law_told : Stmt := top 78
abbrev s_law_right : Stmt := top 79
abbrev s_law : Stmt := top 80
end Sh
end
section
set_option Elab.async false
set_option linter.all false
set_option maxRecDepth 100000
set_option maxHeartbeats 0
namespace Sh
open PySem PySem.Spec PyProof.Rows L2
abbrev TL : PySem.W.OpenLaw := PySem.Challenge.rw_shearyard_k52_cheapest_change
abbrev R : PySem.W.OpenRow := PySem.W.OpenLaw.row TL
def dOf (n : PySem.Str) (st : Stmt) : He.DefD := ⟨(n, none), n, n, defArgs st, defBody st, defScope st, [], []⟩
def dM (c m q : PySem.Str) (st : Stmt) : He.DefD := ⟨(c, some m), m, q, defArgs st, defBody st, defScope st, [], []⟩
def dK (c m q : PySem.Str) (st : Stmt) (ks : List (Str × He.Dv)) : He.DefD := ⟨(c, some m), m, q, defArgs st, defBody st, defScope st, [], ks⟩
def fn : List He.DefD := [dOf "all_letters" s_all_letters, dOf "is_name" s_is_name, dOf "check_pairs" s_check_pairs, dOf "check_beds" s_check_beds, dOf "rows_from" s_rows_from, dOf "check_size" s_check_size, dOf "fault_place" s_fault_place, dOf "check_plant" s_check_plant, dOf "check_states" s_check_states, dOf "rows_by_kind" s_rows_by_kind, dOf "are_states" s_are_states, dOf "check_marks" s_check_marks, dOf "entries_of" s_entries_of, dOf "cheapest_change" s_cheapest_change, dOf "check_swaps" s_check_swaps, dOf "is_price" s_is_price, dOf "cheapest" s_cheapest, dOf "_law_cell" s_law_cell, dOf "_law_box" s_law_box, dOf "_law_pick" s_law_pick, dOf "_law_letters" s_law_letters, dOf "_law_kinds" s_law_kinds, dOf "_law_arity" s_law_arity, dOf "_law_made_bed" s_law_made_bed, dOf "_law_tuples" s_law_tuples, dOf "_law_reader" s_law_reader, dOf "_law_made_reader" s_law_made_reader, dOf "_law_plant" s_law_plant, dOf "_law_chain" s_law_chain, dOf "_law_fault" s_law_fault, dOf "_law_spoilt" s_law_spoilt, dOf "_law_number" s_law_number, dOf "_law_swaps" s_law_swaps, dOf "_law_made_prices" s_law_made_prices, dOf "_law_rank" s_law_rank, dOf "_law_lesser" s_law_lesser, dOf "_law_steps" s_law_steps, dOf "_law_ways" s_law_ways, dOf "_law_integer" s_law_integer, dOf "_law_offer" s_law_offer, dOf "_law_knot" s_law_knot, dOf "_law_due" s_law_due, dOf "_law_told" s_law_told, dOf "_law_right" s_law_right, dOf "law" s_law] ++ [dM "Bed" "__init__" "Bed.__init__" s_init__, dM "Bed" "same" "Bed.same" s_same, dM "Prices" "__init__" "Prices.__init__" s_Prices_init__, dM "Bed" "leaves" "Bed.leaves" s_leaves, dK "Reader" "__init__" "Reader.__init__" s_Reader_init__ [("otherwise", .int 0)], dM "Forest" "__init__" "Forest.__init__" s_Forest_init__, dM "Forest" "node_for" "Forest.node_for" s_Forest_node_for, dM "Changer" "__init__" "Changer.__init__" s_Changer_init__, dM "Changer" "tables_of" "Changer.tables_of" s_Changer_tables_of, dM "Changer" "table_above" "Changer.table_above" s_Changer_table_above, dM "Changer" "offer" "Changer.offer" s_Changer_offer, dM "Changer" "is_better" "Changer.is_better" s_Changer_is_better, dM "Changer" "is_before" "Changer.is_before" s_Changer_is_before]
def fa : List He.Fa := [.glo "all_letters", .glo "is_name", .glo "check_pairs", .glo "check_beds", .glo "rows_from", .glo "check_size", .glo "fault_place", .glo "check_plant", .glo "check_states", .glo "rows_by_kind", .glo "are_states", .glo "check_marks", .glo "entries_of", .glo "cheapest_change", .glo "check_swaps", .glo "is_price", .glo "cheapest", .glo "_law_cell", .glo "_law_box", .glo "_law_pick", .glo "_law_letters", .glo "_law_kinds", .glo "_law_arity", .glo "_law_made_bed", .glo "_law_tuples", .glo "_law_reader", .glo "_law_made_reader", .glo "_law_plant", .glo "_law_chain", .glo "_law_fault", .glo "_law_spoilt", .glo "_law_number", .glo "_law_swaps", .glo "_law_made_prices", .glo "_law_rank", .glo "_law_lesser", .glo "_law_steps", .glo "_law_ways", .glo "_law_integer", .glo "_law_offer", .glo "_law_knot", .glo "_law_due", .glo "_law_told", .glo "_law_right", .glo "law", .glo "Bed", .cls "Bed", .mkr "Bed", .noat "Bed" "rows", .noat "Bed" "kinds", .noat "Bed" "widths", .noat "Bed" "ranks", .meth "Bed" "same", .glo "Prices", .cls "Prices", .mkr "Prices", .noat "Prices" "bed", .noat "Prices" "cutting", .noat "Prices" "swaps", .noat "Prices" "turns", .glo "Reader", .cls "Reader", .mkr "Reader", .noat "Reader" "bed", .noat "Reader" "states", .noat "Reader" "cells", .noat "Reader" "marks", .noat "Reader" "otherwise", .glo "Forest", .cls "Forest", .mkr "Forest", .noat "Forest" "numbers", .noat "Forest" "labels", .noat "Forest" "below", .noat "Forest" "sizes", .noat "Forest" "closed", .glo "Changer", .cls "Changer", .mkr "Changer", .noat "Changer" "prices", .noat "Changer" "reader", .noat "Changer" "ranks", .noat "Changer" "forest", .meth "Bed" "leaves", .meth "Forest" "node_for", .meth "Changer" "tables_of", .meth "Changer" "table_above", .meth "Changer" "offer", .meth "Changer" "is_better", .meth "Changer" "is_before", .free "len", .free "range", .free "abs", .free "int", .free "max", .free "all", .free "isinstance", .free "set", .free "list", .free "tuple", .free "bool", .free "str", .free "enumerate", .free "zip", .free "ValueError", .free "super", .free "reversed", .free "min", .free "sum", .glo "YardError", .int "MOST_PRICE" 1000, .int "MOST_STATES" 40, .int "MOST_KINDS" 8, .int "MOST_BRANCHES" 3, .int "MOST_KNOTS" 2000, .int "LONGEST_NAME" 8, .str "LETTERS" "abcdefghijklmnopqrstuvwxyz"]
def s_TooMany : Stmt := inClass (top 9) 0
def s_InvalidPlant : Stmt := inClass (top 3) 0
def s_UnknownKind : Stmt := inClass (top 7) 0
def s_InvalidPrices : Stmt := inClass (top 5) 0
def s_WrongBranches : Stmt := inClass (top 10) 0
def xTooMany : Hx.XDef := ⟨"TooMany", ["what", "limit"], "TooMany.__init__", defArgs s_TooMany, defBody s_TooMany, defScope s_TooMany⟩
def xInvalidPlant : Hx.XDef := ⟨"InvalidPlant", ["place"], "InvalidPlant.__init__", defArgs s_InvalidPlant, defBody s_InvalidPlant, defScope s_InvalidPlant⟩
def xUnknownKind : Hx.XDef := ⟨"UnknownKind", ["kind"], "UnknownKind.__init__", defArgs s_UnknownKind, defBody s_UnknownKind, defScope s_UnknownKind⟩
def xInvalidPrices : Hx.XDef := ⟨"InvalidPrices", ["place"], "InvalidPrices.__init__", defArgs s_InvalidPrices, defBody s_InvalidPrices, defScope s_InvalidPrices⟩
def xWrongBranches : Hx.XDef := ⟨"WrongBranches", ["wanted", "given"], "WrongBranches.__init__", defArgs s_WrongBranches, defBody s_WrongBranches, defScope s_WrongBranches⟩
def xs : List Hx.XDef := [xTooMany, xInvalidPlant, xUnknownKind, xInvalidPrices, xWrongBranches]
def nsX : List PySem.Str := ["TooMany", "InvalidPlant", "UnknownKind", "InvalidPrices", "WrongBranches"]
abbrev hk : PySem.W.Hook := Hx.hookZ TL.prog.main.file 4 fa fn xs "YardError" nsX
def ob (s : PySem.W.SharedT) : Hx.AlY := Hx.obsZ TL.prog.main.file 4 fa fn xs "YardError" nsX (HandSHeadRun.getT s)
def names : List PySem.Str := (["YardError", "InvalidBed", "InvalidPlant", "InvalidReader", "InvalidPrices", "InvalidText", "UnknownKind", "OtherBed", "TooMany", "WrongBranches", "NoState", "MOST_KINDS", "MOST_BRANCHES", "MOST_KNOTS", "MOST_STATES", "LETTERS", "LONGEST_NAME", "all_letters", "is_name", "DIGITS", "check_pairs", "check_beds", "Bed", "all_rows", "rows_from"] : List PySem.Str) ++ (["check_size", "fault_place", "check_plant", "check_states", "rows_by_kind", "are_states", "check_marks", "Reader", "Forest", "entries_of", "Changer", "cheapest_change", "MOST_PRICE", "check_swaps", "is_price", "Prices", "cheapest", "_law_cell", "_law_box", "_law_pick", "_law_letters", "_law_kinds", "_law_arity", "_law_made_bed", "_law_tuples"] : List PySem.Str) ++ (["_law_reader", "_law_made_reader", "_law_plant", "_law_chain", "_law_fault", "_law_spoilt", "_law_number", "_law_swaps", "_law_made_prices", "_law_rank", "_law_lesser", "_law_steps", "_law_ways", "_law_integer", "_law_offer", "_law_knot", "_law_due", "_law_told", "_law_right"] : List PySem.Str)
end Sh
end
section
set_option Elab.async false
set_option linter.all false
set_option maxRecDepth 100000
set_option maxHeartbeats 0
namespace Sh
open PySem PySem.W PySem.Spec PyProof.Rows L2 HandSHeadRun
theorem pa (w : World) (os : OsState) : (HandSHeadRun.endF (stepQ (denQ tabQ) R.prog w) 9000 R.prog w os).map (fun s => (looksF R.prog (boot_heap w.params) s.abs, seenQ (PySem.W.view R.prog [80]) names (importedModules R.prog.main.body) (fun s => xlAt (PySem.W.view R.prog [80]) [] s && recOk R.toRowW.records s) s.abs, He.obsD fa fn (Hx.frY 4 (HandSHeadRun.getT s)))) = some (true, openGood (PySem.W.view R.prog [80]) names, He.valD fn) := by
  kernel_rfl
theorem pb (w : World) (os : OsState) : (HandSHeadRun.endF (stepQ (denQ tabQ) R.prog w) 9000 R.prog w os).map (fun s => ((xs.all fun d => d.ok TL.prog.main.file (Hx.frY 4 (HandSHeadRun.getT s))), (xs.map fun d => Hx.xvOf (Hx.frY 4 (HandSHeadRun.getT s)) d.x))) = some (true, xs.map Hx.XDef.val) := by
  kernel_rfl
theorem pc (w : World) (os : OsState) : (HandSHeadRun.endF (stepQ (denQ tabQ) R.prog w) 9000 R.prog w os).map (fun s => (nsX.all fun x => Hx.zB (Hx.frY 4 (HandSHeadRun.getT s)) "YardError" nsX x)) = some true := by
  kernel_rfl
theorem glue {α A B C D E : Type} {e : Option α} {f : α → A} {g : α → B} {d : α → C} {x : α → D} {y : α → E} {a : A} {b : B} {c : C} {x0 : D} {y0 : E} (h1 : e.map (fun s => (f s, g s, d s)) = some (a, b, c)) (h2 : e.map x = some x0) (h3 : e.map y = some y0) : e.map (fun s => (f s, g s, ((d s, x s), y s))) = some (a, b, ((c, x0), y0)) := by
  cases e with
  | none => cases h1
  | some s =>
    have e1 := Option.some.inj h1
    have e2 : x s = x0 := Option.some.inj h2
    have e3 : y s = y0 := Option.some.inj h3
    have e4 : f s = a := congrArg (fun z => z.1) e1
    have e5 : g s = b := congrArg (fun z => z.2.1) e1
    have e6 : d s = c := congrArg (fun z => z.2.2) e1
    show some (f s, g s, ((d s, x s), y s)) = _
    rw [e2, e3, e4, e5, e6]
theorem run (w : World) : HandSHeadRun.RunEq R (PySem.W.view R.prog [80]) hk ob 9000 names w := fun os => glue (pa w os) (pb w os) (pc w os)
end Sh
end
section
set_option Elab.async false
set_option linter.all false
set_option maxRecDepth 100000
set_option maxHeartbeats 2000000
set_option autoImplicit false
namespace Sh
open PySem PySem.Spec PyProof.Rows L2
open C8 (pss_cut tCut)
open Evl (ixN_nat)
open TL (tl joinL tl_join join_eq)
end Sh
namespace L2
open PySem PySem.Spec PyProof.Rows
theorem Same.upd_new {H H1 : Hp} {p : Addr} {o : HO} (s : Same H H1) (hp : H1 p = none) : Same H (upd H1 p o) := fun b u h => by
  rw [upd_ne (ne_of_none (s b u h) hp)]
  exact s b u h
theorem Same.upd_own {H H1 : Hp} {p : Addr} {o : HO} (s : Same H H1) (hp : H p = none) : Same H (upd H1 p o) := fun b u h => by
  rw [upd_ne (ne_of_none h hp)]
  exact s b u h
end L2
namespace Sh
open PySem PySem.Spec PyProof.Rows L2
open C8 (pss_cut tCut)
open Evl (ixN_nat)
open TL (tl joinL tl_join join_eq)
theorem get_map {α β : Type} {f : α → β} {l : List α} {i : Nat} {y : β} (h : (l.map f)[i]? = some y) : ∃ x, l[i]? = some x ∧ y = f x := by
  rw [List.getElem?_map] at h
  cases e : l[i]? with
  | none => rw [e] at h; cases h
  | some x => rw [e] at h; exact ⟨x, rfl, (Option.some.inj h).symm⟩
theorem take_snoc {α : Type} {l : List α} {i : Nat} {x : α} (h : l[i]? = some x) : l.take i ++ [x] = l.take (i + 1) := by
  rw [List.take_add_one, h]
  rfl
theorem lt_of_get {α : Type} {l : List α} {i : Nat} {x : α} (h : l[i]? = some x) : i < l.length := (List.getElem?_eq_some_iff.mp h).1
theorem le_line {n : Nat} (h : n ≤ 10000000) : n ≤ sizeLine := Nat.le_trans h (by rw [sizeLine_eq]; decide)
theorem lt_line {n : Nat} (h : n ≤ 10000000) : n < sizeLine := Nat.lt_of_le_of_lt h (by rw [sizeLine_eq]; decide)
theorem at_ofG {α : Type} {xs : List α} {z : Int} {j : Nat} {v : α} (e : z = (j : Int)) (h : xs[j]? = some v) : atI xs z = some v := by
  rw [e]
  exact atI_nat h
def IsNm (z : Str) : Prop := 1 ≤ z.cps.size ∧ z.cps.size ≤ 8 ∧ ∀ c ∈ z.cps.toList, 97 ≤ c ∧ c ≤ 122
def sg (c : Nat) : Str := ⟨#[c]⟩
theorem letters_at (d : Nat) (h : d < 26) : (("abcdefghijklmnopqrstuvwxyz" : Str).cps.toList)[d]? = some (97 + d) := by
  have z : ∀ d, d < 26 → (("abcdefghijklmnopqrstuvwxyz" : Str).cps.toList)[d]? = some (97 + d) := by decide +kernel
  exact z d h
theorem letters_len : ("abcdefghijklmnopqrstuvwxyz" : Str).length = 26 := by decide +kernel
theorem Kp.upd_new {a p : Addr} {H H1 : Hp} {o : HO} (x : Kp a H H1) (hp : H1 p = none) : Kp a H (L2.upd H1 p o) := fun b u h n => by
  have q := x b u h n
  rw [upd_ne (ne_of_none q hp)]
  exact q
theorem Kp.upd_own {a p : Addr} {H H1 : Hp} {o : HO} (x : Kp a H H1) (hp : H p = none) : Kp a H (L2.upd H1 p o) := fun b u h n => by
  rw [upd_ne (ne_of_none h hp)]
  exact x b u h n
theorem BagAt.upd_ne {a p : Addr} {H : Hp} {o : HO} (h : BagAt H a) (n : p ≠ a) : BagAt (upd H p o) a := by
  obtain ⟨z0, z1, z2, z3, cs, q, B⟩ := h
  exact ⟨z0, z1, z2, z3, cs, by rw [L2.upd_ne (Ne.symm n)]; exact q, B⟩
section
variable {P : Program} {w : World} {K : PySem.W.Frag} {mg : Str → Option Value} {base : Heap}
end
end Sh
end
section
set_option Elab.async false
set_option linter.all false
set_option maxRecDepth 100000
set_option maxHeartbeats 2000000
set_option autoImplicit false
namespace Sh
open PySem PySem.Spec PyProof.Rows L2
open C8 (pss_cut tCut)
open Evl (ixN_nat)
open TL (tl joinL tl_join join_eq tl_append)
theorem Kp.free_of {a p : Addr} {H H1 : Hp} (x : Kp a H H1) (h : H1 p = none) (n : p ≠ a) : H p = none := by
  cases e : H p with
  | none => rfl
  | some o =>
    rw [x p o e n] at h
    cases h
theorem inV_str (w : Str) (ns : List Str) : inV (.str w) (ns.map V.str) = decide (w ∈ ns) := by
  induction ns with
  | nil => rfl
  | cons n r ih =>
    have e : inV (.str w) ((n :: r).map V.str) = ((n == w) || inV (.str w) (r.map V.str)) := rfl
    rw [e, ih, Bool.eq_iff_iff, Bool.or_eq_true, beq_iff_eq, decide_eq_true_iff, decide_eq_true_iff, List.mem_cons]
    exact or_congr_left eq_comm
theorem flat_strs (ns : List Str) : (ns.map V.str).all flatV = true := by
  rw [List.all_eq_true]
  intro x hx
  obtain ⟨y, _, rfl⟩ := List.mem_map.mp hx
  rfl
theorem flat_ints (ns : List Int) : (ns.map V.int).all flatV = true := by
  rw [List.all_eq_true]
  intro x hx
  obtain ⟨y, _, rfl⟩ := List.mem_map.mp hx
  rfl
theorem str_len (z : Str) : z.length = z.cps.size := rfl
theorem nm_line {z : Str} (h : IsNm z) : z.length ≤ sizeLine := le_line (Nat.le_trans h.2.1 (by decide))
section
variable {P : Program} {w : World} {K : PySem.W.Frag} {mg : Str → Option Value} {base : Heap}
end
end Sh
end
section
set_option Elab.async false
set_option linter.all false
set_option maxRecDepth 100000
set_option maxHeartbeats 2000000
set_option autoImplicit false
namespace Sh
open PySem PySem.Spec PyProof.Rows L2
open C8 (pss_cut tCut)
open Evl (ixN_nat)
abbrev Row := Str × Int
/-- tuples stay -/
def TK (H H' : Hp) : Prop := ∀ t xs, H t = some (.tup xs) → H' t = some (.tup xs)
theorem TK.refl (H : Hp) : TK H H := fun _ _ h => h
theorem TK.trans {H H1 H2 : Hp} (x : TK H H1) (y : TK H1 H2) : TK H H2 := fun t xs h => y t xs (x t xs h)
theorem TK.new {H : Hp} {p : Addr} {o : HO} (h : H p = none) : TK H (upd H p o) := fun t xs q => by
  rw [upd_ne (ne_of_none q h)]
  exact q
theorem TK.lst {H : Hp} {p : Addr} {ys : List V} {o : HO} (h : H p = some (.lst ys)) : TK H (upd H p o) := fun t xs q => by
  rw [upd_ne (ne_of q h (fun e => nomatch e))]
  exact q
theorem TK.of_same {H H' : Hp} (s : Same H H') : TK H H' := fun t xs q => s t _ q
theorem Kp.tk {a : Addr} {H H' : Hp} (x : Kp a H H') (b : BagAt H a) : TK H H' := fun t xs q => by
  obtain ⟨z0, z1, z2, z3, cs, hb, _⟩ := b
  exact x t _ q (ne_of q hb (fun e => nomatch e))
def TupsAt (H : Hp) (ts : List Addr) (rows : List Row) : Prop := ts.length = rows.length ∧ ∀ (i : Nat) (t : Addr) (q : Row), ts[i]? = some t → rows[i]? = some q → H t = some (.tup [.str q.1, .int q.2])
theorem TupsAt.keep {H H' : Hp} {ts : List Addr} {rows : List Row} (x : TupsAt H ts rows) (k : TK H H') : TupsAt H' ts rows := ⟨x.1, fun i t q a b => k _ _ (x.2 i t q a b)⟩
theorem TupsAt.snoc {H : Hp} {ts : List Addr} {rows : List Row} {t : Addr} {q : Row} (x : TupsAt H ts rows) (h : H t = some (.tup [.str q.1, .int q.2])) : TupsAt H (ts ++ [t]) (rows ++ [q]) := by
  refine ⟨by simp [x.1], fun i t' q' a b => ?_⟩
  by_cases hi : i < ts.length
  · rw [List.getElem?_append_left hi] at a
    rw [List.getElem?_append_left (by rw [← x.1]; exact hi)] at b
    exact x.2 i t' q' a b
  · have hl := lt_of_get a
    rw [List.length_append, List.length_singleton] at hl
    have e : i = ts.length := by omega
    subst e
    rw [List.getElem?_append_right (Nat.le_refl _), Nat.sub_self] at a
    rw [x.1, List.getElem?_append_right (Nat.le_refl _), Nat.sub_self] at b
    cases a
    cases b
    exact h
def RowsAt (H : Hp) (r : Addr) (rows : List Row) : Prop := ∃ ts, H r = some (.lst (ts.map V.ref)) ∧ TupsAt H ts rows
structure ROk (most : Int) (rows : List Row) : Prop where
  pos : 1 ≤ rows.length
  len : (rows.length : Int) ≤ most
  nd : (rows.map (·.1)).Nodup
  nm : ∀ q ∈ rows, IsNm q.1
  wd : ∀ q ∈ rows, 0 ≤ q.2 ∧ q.2 ≤ 3
  leaf : ∃ q ∈ rows, q.2 = 0
theorem mem_map_ints {ws : List Int} {n : Int} : inV (.int n) (ws.map V.int) = decide (n ∈ ws) := by
  induction ws with
  | nil => rfl
  | cons z r ih =>
    have e : inV (.int n) ((z :: r).map V.int) = ((z == n) || inV (.int n) (r.map V.int)) := rfl
    rw [e, ih, Bool.eq_iff_iff, Bool.or_eq_true, beq_iff_eq, decide_eq_true_iff, decide_eq_true_iff, List.mem_cons]
    exact or_congr_left eq_comm
section
variable {P : Program} {w : World} {K : PySem.W.Frag} {mg : Str → Option Value} {base : Heap}
end
end Sh
end
section
set_option Elab.async false
set_option linter.all false
set_option maxRecDepth 100000
set_option maxHeartbeats 2000000
set_option autoImplicit false
namespace Sh
open PySem PySem.Spec PyProof.Rows L2
open C8 (pss_cut tCut)
open Evl (ixN_nat)
theorem iteNN {c A B : Prop} [Decidable c] (hc : ¬ c) (h : A) : if (!decide c) = true then A else B := by
  rw [decide_eq_false hc]
  exact iteT h
def spTrueNm : Sp := fun vs H Q _ => ∃ z, vs = [.str z] ∧ IsNm z ∧ ∀ H', Same H H' → Q (.bl true) H'
theorem in_letters (c : Nat) (h : 97 ≤ c ∧ c ≤ 122) : c ∈ ("abcdefghijklmnopqrstuvwxyz" : Str).cps.toList := by
  have z := letters_at (c - 97) (by omega)
  rw [show 97 + (c - 97) = c by omega] at z
  exact List.mem_of_getElem? z
abbrev N_all_letters : List Str := ["text", "letter"]
theorem sc_all_letters : FnScope N_all_letters ["text"] (defScope s_all_letters) := ⟨rfl, rfl, rfl, by decide +kernel, rfl, by decide +kernel, by decide +kernel⟩
abbrev N_is_name : List Str := ["text"]
theorem sc_is_name : FnScope N_is_name ["text"] (defScope s_is_name) := ⟨rfl, rfl, rfl, by decide +kernel, rfl, by decide +kernel, by decide +kernel⟩
abbrev N_check_pairs : List Str := ["pairs", "seen", "place", "name", "many", "_"]
theorem sc_check_pairs : FnScope N_check_pairs ["pairs"] (defScope s_check_pairs) := ⟨rfl, rfl, rfl, by decide +kernel, rfl, by decide +kernel, by decide +kernel⟩
theorem walk_enumT {K : PySem.W.Frag} {a : Addr} {xs : List V} : Walk (IteT K a) xs.length (fun H => SqT K H a xs) (YPair (fun i => some (.int (i : Nat))) (fun i => xs[i]?)) := by
  refine ⟨fun i _ hi q => ⟨xs, xs[i], q, by simp [hi]⟩, fun _ q => ⟨xs, q, Nat.le_refl _⟩, fun i H v H' _ q y => ?_⟩
  obtain ⟨T, x, h1, h2, h3, h4⟩ := y
  exact ⟨T, .int (i : Nat), x, h1, h2, h3, rfl, h4 xs q⟩
theorem TupsAt.at {H : Hp} {ts : List Addr} {rows : List Row} (x : TupsAt H ts rows) {i : Nat} (h : i < rows.length) : ∃ t, ts[i]? = some t ∧ (ts.map V.ref)[i]? = some (.ref t) ∧ H t = some (.tup [.str (rows[i]).1, .int (rows[i]).2]) := by
  have h2 : i < ts.length := by rw [x.1]; exact h
  exact ⟨ts[i], List.getElem?_eq_getElem h2, by rw [List.getElem?_map, List.getElem?_eq_getElem h2]; rfl, x.2 i _ _ (List.getElem?_eq_getElem h2) (List.getElem?_eq_getElem h)⟩
theorem nd_take {α : Type} {l : List α} (nd : l.Nodup) {i : Nat} (h : i < l.length) : l[i] ∉ l.take i := fun q => by
  obtain ⟨j, hj, e⟩ := List.mem_iff_getElem.mp q
  rw [List.getElem_take] at e
  rw [List.length_take] at hj
  have := (List.getElem_inj nd).mp e
  omega
def spPairs : Sp := fun vs H Q _ => ∃ (p : Addr) (ts : List Addr) (rows : List Row), vs = [.ref p] ∧ H p = some (.tup (ts.map V.ref)) ∧ TupsAt H ts rows ∧ ROk 8 rows ∧ ∀ H', Same H H' → Q .non H'
section
variable {P : Program} {w : World} {K : PySem.W.Frag} {mg : Str → Option Value} {base : Heap}
theorem ok_all_letters (T : Bl mg) (D : Def0 K mg "all_letters" s_all_letters) : DefOk P w K mg base CX0 1 "all_letters" spTrueNm := by
  refine D.ok sc_all_letters (fun vs H Q E h => ?_) (fun _ _ _ _ _ _ us hl => match us, hl with | [_], _ => rfl) (fun f cdv A outer s H vs Q E hr h => ?_)
  · obtain ⟨z, rfl, _⟩ := h
    rfl
  · obtain ⟨z, rfl, nz, k⟩ := h
    refine ⟨_, (pss_one (ps_ret (pe_and (pe_cmpR op_ne (pv 0) pe_str (nomark _)) (pe_one (pe_callB (cr_all rfl) (by rfl) T.b_all (by decide +kernel) (pa_cons (pe_lc (own := [("letter", 1)]) (g := (gName 1)) (tt := tYes) rfl sc_all_letters.nd (pi_str (pv 0)) (blkOk_by (N := N_all_letters) (sc := defScope s_all_letters) (by decide +kernel)) (fun _ _ _ _ _ => (pg_name (i := 1) sc_all_letters.nd rfl (Or.inl rfl))) (fun _ _ _ _ _ => pts_nil) (fun _ _ _ _ _ => (pe_cmpR op_in_sign (pv 1) (pe_cS (by rfl) T.c_LETTERS) (by rfl)))) pa_nil)))))), ?_⟩
    have hne : ¬ V.str z = V.str "" := fun e => by
      have e2 := V.str.inj e
      have := nz.1
      rw [e2] at this
      exact absurd this (by decide)
    refine ⟨_, rfl, rfl, _, rfl, iteNN hne ?_⟩
    refine ⟨_, rfl, _, rfl, fun D hD => lc_it walk_str (fun i H' => Same H H' ∧ H' D = some (.lst ((List.replicate i true).map V.bl))) ⟨(Same.refl H).upd_new hD, upd_same⟩ (fun _ _ _ _ => trivial) ?_ ?_⟩
    · rintro i x H1 H2 hi ⟨q1, q2⟩ ⟨rfl, c, hc, rfl⟩
      have hcm : c ∈ z.cps.toList := List.mem_of_getElem? (by rw [Array.getElem?_toList]; exact hc)
      refine ⟨rfl, _, rfl, c, _, rfl, rfl, ?_⟩
      rw [decide_eq_true (in_letters c (nz.2.2 c hcm))]
      refine ⟨_, q2, ?_, q1.upd_own hD, ?_⟩
      · rw [List.length_map, List.length_replicate]
        have := nz.2.1
        exact lt_line (by omega)
      · rw [upd_same, List.replicate_succ', List.map_append]
        rfl
    · rintro H1 ⟨q1, q2⟩
      refine ⟨D, _, rfl, SqL.of q2, ?_⟩
      rw [show (List.replicate z.cps.size true).all id = true from by rw [List.all_eq_true]; intro x hx; exact (List.mem_replicate.mp hx).2]
      exact k H1 q1
theorem ok_is_name (T : Bl mg) (c_all_letters : DefOk P w K mg base CX0 1 "all_letters" spTrueNm) (D : Def0 K mg "is_name" s_is_name) : DefOk P w K mg base CX0 2 "is_name" spTrueNm := by
  refine D.ok sc_is_name (fun vs H Q E h => ?_) (fun _ _ _ _ _ _ us hl => match us, hl with | [_], _ => rfl) (fun f cdv A outer s H vs Q E hr h => ?_)
  · obtain ⟨z, rfl, _⟩ := h
    rfl
  · obtain ⟨z, rfl, nz, k⟩ := h
    refine ⟨_, (pss_one (ps_ret (pe_and (pe_cmpR op_le (pe_callB call_len_str (by rfl) T.b_len boot_len (pa_cons (pv 0) pa_nil)) (pe_cI (by rfl) T.c_LONGEST_NAME) (nomark _)) (pe_one (pe_d c_all_letters (hr.mono (by decide)) pass0 (pa_cons (pv 0) pa_nil)))))), ?_⟩
    refine ⟨_, rfl, _, rfl, nm_line nz, _, _, rfl, rfl, _, rfl, ?_⟩
    rw [decide_eq_true (show ((z.length : Nat) : Int) ≤ 8 by have := nz.2.1; rw [str_len]; omega)]
    refine iteT ?_
    exact ⟨_, rfl, z, rfl, nz, k⟩
theorem ok_check_pairs (T : Bl mg) (c_is_name : DefOk P w K mg base CX0 2 "is_name" spTrueNm) (D : Def0 K mg "check_pairs" s_check_pairs) : DefOk P w K mg base CX0 3 "check_pairs" spPairs := by
  refine D.ok sc_check_pairs (fun vs H Q E h => ?_) (fun _ _ _ _ _ _ us hl => match us, hl with | [_], _ => rfl) (fun f cdv A outer s H vs Q E hr h => ?_)
  · obtain ⟨p, ts, rows, rfl, _⟩ := h
    rfl
  · obtain ⟨p, ts, rows, rfl, hp, hT, R, k⟩ := h
    refine ⟨_, (pss_cons (ps_if (pt_cmpR op_gt (pe_callB call_len_seq (by rfl) T.b_len boot_len (pa_cons (pv 0) pa_nil)) (pe_cI (by rfl) T.c_MOST_KINDS) (nomark _))
        (pss_one ps_never)
        pss_nil)
      (pss_cons (ps_set (i := 1) sc_check_pairs.nd rfl (Or.inl rfl) (pe_callTy0 cr_set0K (by rfl) T.b_set (by decide +kernel)))
      (pss_cons (ps_for PassesOwn.never rfl (pi_enumT (by rfl) T.b_enumerate (pa_cons (pv 0) pa_nil)) (pg_tup (by rfl) (pgs_cons (pg_name (i := 2) sc_check_pairs.nd rfl (Or.inl rfl)) (pgs_cons (pg_tup (by rfl) (pgs_cons (pg_name (i := 3) sc_check_pairs.nd rfl (Or.inl rfl)) (pgs_cons (pg_name (i := 4) sc_check_pairs.nd rfl (Or.inl rfl)) pgs_nil))) pgs_nil)))
        (pss_cons (ps_if (PW.pt (pw_or (pt_not (pt_val (pe_d c_is_name (hr.mono (by decide)) pass0 (pa_cons (pv 3) pa_nil)))) (pw_or (pt_cmpR op_lt (pv 4) pe_int (nomark _)) (pw_or (pt_cmpR op_gt (pv 4) (pe_cI (by rfl) T.c_MOST_BRANCHES) (nomark _)) (pw_or1 (pt_cmpR or_sinK (pv 3) (pv 1) (by rfl)))))))
          (pss_one ps_never)
          pss_nil)
        (pss_one (ps_expr (pe_saddK (pv 1) (pa_cons (pv 3) pa_nil))))))
      (pss_one (ps_if (pt_cmpR op_notIn_seq pe_int (pe_lc (own := [("_", 5), ("many", 4)]) (g := (gTup K 2 (gCons (gName 5) (gCons (gName 4) gNil)))) (tt := tYes) rfl sc_check_pairs.nd (pi_tup (pv 0)) (blkOk_by (N := N_check_pairs) (sc := defScope s_check_pairs) (by decide +kernel)) (fun _ _ _ _ _ => (pg_tup (by rfl) (pgs_cons (pg_name (i := 5) sc_check_pairs.nd rfl (Or.inl rfl)) (pgs_cons (pg_name (i := 4) sc_check_pairs.nd rfl (Or.inl rfl)) pgs_nil)))) (fun _ _ _ _ _ => pts_nil) (fun _ _ _ _ _ => (pv 4))) (by rfl))
        (pss_one ps_never)
        pss_nil))))), ?_⟩
    have hlen : ts.length = rows.length := hT.1
    have R8 : rows.length ≤ 8 := by have := R.len; omega
    refine ⟨_, rfl, p, _, rfl, .inr (SqT.of hp), _, _, rfl, rfl, _, rfl, ?_⟩
    rw [decide_eq_false (show ¬ (8 : Int) < (((ts.map V.ref).length : Nat) : Int) by rw [List.length_map]; omega)]
    refine iteF ?_
    refine ⟨rfl, fun d hd => ?_⟩
    have s0 : Same H (upd H d (SetK P w d (fun _ => false) 0)) := (Same.refl H).upd_new hd
    have npd : ∀ {H' : Hp}, Same H H' → H' p = some (.tup (ts.map V.ref)) := fun q => q _ _ hp
    refine ⟨_, rfl, p, _, rfl, SqT.of (npd s0), for_it (walk_enumT (xs := ts.map V.ref)) (fun i σ H' => ∃ (x y z : Option V), σ = [some (.ref p), some (.ref d), x, y, z, none] ∧ Same H H' ∧ ∃ (S : Key → Bool) (n : Nat), H' d = some (SetK P w d S n) ∧ n ≤ i ∧ ∀ u : Str, S (.inr u) = true → u ∈ (rows.map (·.1)).take i)
      ⟨none, none, none, rfl, s0, _, 0, upd_same, Nat.le_refl _, fun u h => nomatch h⟩ (fun i σ H' _ ⟨_, _, _, _, q, _⟩ => SqT.of (npd q)) ?_ ?_⟩
    · rintro i v σ H1 H2 hi ⟨x, y, z, rfl, s1, S, n, hS, hn, hu⟩ ⟨P1, v1, v2, rfl, hP1, rfl, e1, e2⟩
      have hir : i < rows.length := by rw [List.length_map, hlen] at hi; exact hi
      obtain ⟨t, t1, t2, t3⟩ := hT.at hir
      have t2' : (ts.map V.ref)[i]? = some v2 := e2
      rw [t2] at t2'
      cases t2'
      cases e1
      have s2 := s1.upd_new (o := .tup [.int ((i : Nat) : Int), .ref t]) hP1
      have nm := R.nm _ (List.getElem_mem hir)
      have wd := R.wd _ (List.getElem_mem hir)
      refine ⟨P1, _, rfl, SqT.of upd_same, rfl, _, _, rfl, _, _, rfl, ?_⟩
      refine ⟨t, _, rfl, SqT.of (s2 _ _ t3), rfl, _, _, rfl, _, _, rfl, rfl, rfl, ?_⟩
      refine ⟨_, rfl, (rows[i]).1, rfl, nm, fun H3 s3 => ⟨true, rfl, ?_⟩⟩
      show if false = true then _ else _
      refine iteF ⟨_, rfl, _, _, rfl, rfl, _, rfl, ?_⟩
      rw [decide_eq_false (show ¬ (rows[i]).2 < 0 by omega)]
      refine iteF ⟨_, rfl, _, _, rfl, rfl, _, rfl, ?_⟩
      rw [decide_eq_false (show ¬ (3 : Int) < (rows[i]).2 by omega)]
      have hS3 : H3 d = some (SetK P w d S n) := s3 _ _ (by rw [upd_ne (ne_of_none hS hP1)]; exact hS)
      have hSf : S (.inr (rows[i]).1) = false := by
        cases q : S (.inr (rows[i]).1) with
        | false => rfl
        | true =>
          have z1 := hu _ q
          have z2 := nd_take (l := rows.map (·.1)) R.nd (i := i) (by rw [List.length_map]; exact hir)
          rw [List.getElem_map] at z2
          exact absurd z1 z2
      refine iteF ⟨_, rfl, _, rfl, .inr (rows[i]).1, d, S, n, rfl, rfl, hS3, _, rfl, ?_⟩
      rw [show (if false = true then !S (.inr (rows[i]).1) else S (.inr (rows[i]).1)) = false from hSf]
      refine iteF ?_
      refine ⟨_, rfl, ⟨d, S, n, rfl, hS3⟩, _, rfl, d, .inr (rows[i]).1, S, n, rfl, rfl, hS3, ?_, ?_⟩
      · show n + 1 < 4096
        omega
      · refine ⟨_, _, _, rfl, ?_, _, _, upd_same, ?_, ?_⟩
        · exact (s2.trans s3).upd_own hd
        · show (if S (Sum.inr (rows[i]).1) = true then n else n + 1) ≤ i + 1
          split <;> omega
        · intro u hu2
          have hg : (rows.map (·.1))[i]? = some (rows[i]).1 := by rw [List.getElem?_map, List.getElem?_eq_getElem hir]; rfl
          rw [← take_snoc hg]
          rcases Bool.or_eq_true_iff.mp hu2 with q | q
          · exact List.mem_append_left _ (hu u q)
          · have := of_decide_eq_true q
            rw [Sum.inr.inj this]
            exact List.mem_append_right _ List.mem_cons_self
    · rintro σ H1 ⟨x, y, z, rfl, s1, S, n, hS, hn, hu⟩
      refine ⟨_, rfl, p, rfl, ⟨_, SqT.of (npd s1)⟩, fun D hD => lc_it (walk_tup (xs := ts.map V.ref)) (fun i H' => Same H1 H' ∧ H' D = some (.lst (((rows.map (·.2)).take i).map V.int))) ⟨(Same.refl H1).upd_new hD, upd_same⟩ (fun i H' _ ⟨q, _⟩ => SqT.of (npd (s1.trans q))) ?_ ?_⟩
      · rintro i v H2 H3 hi ⟨q1, q2⟩ ⟨rfl, hv⟩
        have hir : i < rows.length := by rw [List.length_map, hlen] at hi; exact hi
        obtain ⟨t, t1, t2, t3⟩ := hT.at hir
        rw [t2] at hv
        cases hv
        refine ⟨t, _, rfl, SqT.of ((s1.trans q1) _ _ t3), rfl, _, _, rfl, _, _, rfl, rfl, rfl, ?_⟩
        refine ⟨_, rfl, _, q2, ?_, q1.upd_own hD, ?_⟩
        · rw [List.length_map, List.length_take]
          exact lt_line (by omega)
        · have hg : (rows.map (·.2))[i]? = some (rows[i]).2 := by rw [List.getElem?_map, List.getElem?_eq_getElem hir]; rfl
          rw [upd_same, ← take_snoc hg, List.map_append]
          rfl
      · rintro H2 ⟨q1, q2⟩
        rw [show (ts.map V.ref).length = (rows.map (·.2)).length by rw [List.length_map, List.length_map, hlen], List.take_length] at q2
        refine ⟨D, _, rfl, .inl (SqL.of q2), rfl, flat_ints _, _, rfl, ?_⟩
        have h0 : (0 : Int) ∈ rows.map (·.2) := by
          obtain ⟨q, hq, e⟩ := R.leaf
          rw [← e]
          exact List.mem_map_of_mem hq
        show if (!inV (V.int 0) ((rows.map (·.2)).map V.int)) = true then _ else _
        rw [mem_map_ints, decide_eq_true h0]
        refine iteF ?_
        exact k H2 (s1.trans q1)
end
end Sh
end
section
set_option Elab.async false
set_option linter.all false
set_option maxRecDepth 100000
set_option maxHeartbeats 2000000
set_option autoImplicit false
namespace L2
open PySem PySem.Spec PyProof.Rows
/-- a dict comprehension over any walk -/
theorem dc_it {J : It} {n : Nat} {G : Hp → Prop} {Y : Nat → Hp → V → Hp → Prop} (w : Walk J n G Y) {g : TG} {tt : TT} {tk tv : TE} {vs : List Nat} {σ : St} {H1 : Hp} {D : Addr} {Qd : Hp → Prop} (Pv : Nat → Hp → Prop) (h0 : Pv 0 (upd H1 D (.dK []))) (hG : ∀ i H, i ≤ n → Pv i H → G H)
    (hs : ∀ i x H H', i < n → Pv i H → Y i H x H' → g x (wipe σ vs) H' fun σ2 H2 => wipe σ2 vs = wipe σ vs ∧ tt σ2 H2 fun b H3 =>
      if b = true then tk σ2 H3 fun y H4 => tv σ2 H4 fun z H5 => ∃ kvs k, y = kV k ∧ H5 D = some (.dK kvs) ∧ kvs.length < sizeLine ∧ Pv (i + 1) (upd H5 D (.dK (putK kvs k z))) else Pv (i + 1) H3) (hd : ∀ H, Pv n H → Qd H) :
    ∃ W : Nat → Nat → Hp → Prop, (∃ m, W 0 m (upd H1 D (.dK []))) ∧ ∀ i m H, W i m H →
      (J.stop i H ∧ Qd H) ∨ (J.go i H ∧ ∃ Nx : Hp → Prop, (∀ H', Nx H' → ∃ m', m' < m ∧ W (i + 1) m' H') ∧ ∀ x H', J.yld i H x H' → g x (wipe σ vs) H' fun σ2 H2 => wipe σ2 vs = wipe σ vs ∧ tt σ2 H2 fun b H3 =>
        if b = true then tk σ2 H3 fun y H4 => tv σ2 H4 fun z H5 => ∃ kvs k, y = kV k ∧ H5 D = some (.dK kvs) ∧ kvs.length < sizeLine ∧ Nx (upd H5 D (.dK (putK kvs k z))) else Nx H3) := by
  refine ⟨fun i m H => m = n - i ∧ i ≤ n ∧ Pv i H, ⟨n, by simp, Nat.zero_le _, h0⟩, ?_⟩
  rintro i m H ⟨rfl, hi, p⟩
  have q := hG i H hi p
  by_cases hlt : i < n
  · exact .inr ⟨w.goes i H hlt q, Pv (i + 1), fun H' p' => ⟨n - (i + 1), by omega, rfl, hlt, p'⟩, fun x H' y => hs i x H H' hlt p (w.yields i H x H' hlt q y)⟩
  · have e : i = n := by omega
    subst e
    exact .inl ⟨w.stops H q, hd H p⟩
end L2
namespace Sh
open PySem PySem.Spec PyProof.Rows L2
open C8 (pss_cut tCut)
open Evl (ixN_nat)
def bedF (r k w rk : Addr) : List (Str × V) := [("rows", .ref r), ("kinds", .ref k), ("widths", .ref w), ("ranks", .ref rk)]
def wL (rows : List Row) : List (Key × V) := rows.map fun q => (.inr q.1, .int q.2)
def rkL (ns : List Str) : List (Key × V) := ns.zipIdx.map fun q => (.inr q.1, .int ((q.2 : Nat) : Int))
def BedAt (C : Addr) (H : Hp) (p : Addr) (rows : List Row) : Prop := ∃ (dx r k w rk : Addr) (ts : List Addr), H p = some (.ins C dx (bedF r k w rk)) ∧ H r = some (.tup (ts.map V.ref)) ∧ TupsAt H ts rows ∧
  H k = some (.tup ((rows.map (·.1)).map V.str)) ∧ H w = some (.dK (wL rows)) ∧ H rk = some (.dK (rkL (rows.map (·.1))))
theorem BedAt.same {C : Addr} {H H' : Hp} {p : Addr} {rows : List Row} (x : BedAt C H p rows) (s : Same H H') : BedAt C H' p rows := by
  obtain ⟨dx, r, k, w, rk, ts, h1, h2, h3, h4, h5, h6⟩ := x
  exact ⟨dx, r, k, w, rk, ts, s _ _ h1, s _ _ h2, h3.keep (TK.of_same s), s _ _ h4, s _ _ h5, s _ _ h6⟩
theorem BedAt.kp {C a : Addr} {H H' : Hp} {p : Addr} {rows : List Row} (x : BedAt C H p rows) (b : BagAt H a) (s : Kp a H H') : BedAt C H' p rows := by
  obtain ⟨dx, r, k, w, rk, ts, h1, h2, h3, h4, h5, h6⟩ := x
  have tk := s.tk b
  obtain ⟨z0, z1, z2, z3, cs, hb, _⟩ := b
  exact ⟨dx, r, k, w, rk, ts, s _ _ h1 (ne_of h1 hb (fun e => nomatch e)), tk _ _ h2, h3.keep tk, tk _ _ h4, s _ _ h5 (ne_of h5 hb (fun e => nomatch e)), s _ _ h6 (ne_of h6 hb (fun e => nomatch e))⟩
/-- what the written part says of the class Bed -/
structure BedT (K : PySem.W.Frag) (C : Addr) : Prop where
  cl : Cls K C
  nR : NoAttr K C "rows"
  nK : NoAttr K C "kinds"
  nW : NoAttr K C "widths"
  nRk : NoAttr K C "ranks"
theorem s_ne : ¬ ("rows" : Str) = "kinds" ∧ ¬ ("rows" : Str) = "widths" ∧ ¬ ("rows" : Str) = "ranks" ∧ ¬ ("kinds" : Str) = "widths" ∧ ¬ ("kinds" : Str) = "ranks" ∧ ¬ ("widths" : Str) = "ranks" := by decide +kernel
theorem put1 (r k : Addr) : putF "kinds" (.ref k) [("rows", .ref r)] = [(("rows" : Str), V.ref r), ("kinds", .ref k)] := by simp [putF, s_ne]
theorem put2 (r k w : Addr) : putF "widths" (.ref w) [("rows", .ref r), ("kinds", .ref k)] = [(("rows" : Str), V.ref r), ("kinds", .ref k), ("widths", .ref w)] := by simp [putF, s_ne]
theorem put3 (r k w rk : Addr) : putF "ranks" (.ref rk) [("rows", .ref r), ("kinds", .ref k), ("widths", .ref w)] = bedF r k w rk := by simp [putF, s_ne, bedF]
theorem lk_k2 (r k w : Addr) : ([("rows", .ref r), ("kinds", .ref k), ("widths", .ref w)] : List (Str × V)).lookup ("kinds" : Str) = some (.ref k) := by
  have h : (("kinds" : Str) == "rows") = false := by decide +kernel
  simp [List.lookup, h]
theorem lk_rows (r k w rk : Addr) : (bedF r k w rk).lookup ("rows" : Str) = some (.ref r) := by simp [bedF, List.lookup]
theorem lk_kinds (r k w rk : Addr) : (bedF r k w rk).lookup ("kinds" : Str) = some (.ref k) := by
  have h : (("kinds" : Str) == "rows") = false := by decide +kernel
  simp [bedF, List.lookup, h]
theorem lk_widths (r k w rk : Addr) : (bedF r k w rk).lookup ("widths" : Str) = some (.ref w) := by
  have h : (("widths" : Str) == "rows") = false := by decide +kernel
  have h2 : (("widths" : Str) == "kinds") = false := by decide +kernel
  simp [bedF, List.lookup, h, h2]
theorem lk_ranks (r k w rk : Addr) : (bedF r k w rk).lookup ("ranks" : Str) = some (.ref rk) := by
  have h : (("ranks" : Str) == "rows") = false := by decide +kernel
  have h2 : (("ranks" : Str) == "kinds") = false := by decide +kernel
  have h3 : (("ranks" : Str) == "widths") = false := by decide +kernel
  simp [bedF, List.lookup, h, h2, h3]
theorem valV_none {kvs : List (Key × V)} {s : Str} (h : ∀ kv ∈ kvs, kv.1 ≠ .inr s) : valV kvs (.inr s) = none := by
  unfold valV
  rw [List.find?_eq_none.mpr (fun kv hk => by simpa using h kv hk)]
  rfl
/-- __init__ at a new instance -/
def spBedI (C : Addr) : Sp := fun vs H Q _ => ∃ (x dx p : Addr) (ts : List Addr) (rows : List Row), vs = [.ref x, .ref p] ∧ H x = some (.ins C dx []) ∧ H p = some (.tup (ts.map V.ref)) ∧ TupsAt H ts rows ∧ ROk 8 rows ∧ ∀ H', (∀ b o, H b = some o → b ≠ x → H' b = some o) → BedAt C H' x rows → Q .non H'
abbrev N_init__ : List Str := ["self", "kinds", "name", "_", "many", "rank"]
theorem sc_init__ : FnScope N_init__ ["self", "kinds"] (defScope s_init__) := ⟨rfl, rfl, rfl, by decide +kernel, rfl, by decide +kernel, by decide +kernel⟩
section
variable {P : Program} {w : World} {K : PySem.W.Frag} {mg : Str → Option Value} {base : Heap} {C : Addr}
theorem body_bedI (T : Bl mg) (B : BedT K C) (c_check_pairs : DefOk P w K mg base CX0 3 "check_pairs" spPairs) {f : Addr} {cdv : Value} {A : Around} {outer : List Env} {s : Shared} {H : Hp} {vs : List V} {Q : VK} {E : XK} (hr : Room 3 (A.deeper (envOfC "Bed.__init__" (defScope s_init__) s.heap.objs.size f cdv))) (h : spBedI C vs H Q E) :
    ∃ t, PSs (cxOf CX0 P w K mg base N_init__ "Bed.__init__" (defScope s_init__) f cdv A outer s H E).nox (defBody s_init__) t ∧ t { nx := fun _ H' => Q .non H', rt := Q } (start N_init__ vs) H := by
  obtain ⟨x, dx, p, ts, rows, rfl, hx, hp, hT, R, k⟩ := h
  refine ⟨_, (pss_cons (ps_expr (pe_d c_check_pairs (hr.mono (by decide)) pass0 (pa_cons (pv 1) pa_nil)))
    (pss_cons (ps_fld (pv 0) (pv 1) rfl)
    (pss_cons (ps_fld (pv 0) (pe_callTy call_tuple_of (by rfl) T.b_tuple (by decide +kernel) (pa_cons (pe_lc (own := [("name", 2), ("_", 3)]) (g := (gTup K 2 (gCons (gName 2) (gCons (gName 3) gNil)))) (tt := tYes) rfl sc_init__.nd (pi_tup (pv 1)) (blkOk_by (N := N_init__) (sc := defScope s_init__) (by decide +kernel)) (fun _ _ _ _ _ => (pg_tup (by rfl) (pgs_cons (pg_name (i := 2) sc_init__.nd rfl (Or.inl rfl)) (pgs_cons (pg_name (i := 3) sc_init__.nd rfl (Or.inl rfl)) pgs_nil)))) (fun _ _ _ _ _ => pts_nil) (fun _ _ _ _ _ => (pv 2))) pa_nil)) rfl)
    (pss_cons (ps_fld (pv 0) (pe_dc (own := [("name", 2), ("many", 4)]) (g := (gTup K 2 (gCons (gName 2) (gCons (gName 4) gNil)))) (tt := tYes) rfl sc_init__.nd (pi_tup (pv 1)) (blkOk_by (N := N_init__) (sc := defScope s_init__) (by decide +kernel)) (fun _ _ _ _ _ => (pg_tup (by rfl) (pgs_cons (pg_name (i := 2) sc_init__.nd rfl (Or.inl rfl)) (pgs_cons (pg_name (i := 4) sc_init__.nd rfl (Or.inl rfl)) pgs_nil)))) (fun _ _ _ _ _ => pts_nil) (fun _ _ _ _ _ => (pv 2)) (fun _ _ _ _ _ => (pv 4))) rfl)
    (pss_one (ps_fld (pv 0) (pe_dc (own := [("rank", 5), ("name", 2)]) (g := (gTup K 2 (gCons (gName 5) (gCons (gName 2) gNil)))) (tt := tYes) rfl sc_init__.nd (pi_enumT (by rfl) T.b_enumerate (pa_cons (pe_fld (pv 0) rfl) pa_nil)) (blkOk_by (N := N_init__) (sc := defScope s_init__) (by decide +kernel)) (fun _ _ _ _ _ => (pg_tup (by rfl) (pgs_cons (pg_name (i := 5) sc_init__.nd rfl (Or.inl rfl)) (pgs_cons (pg_name (i := 2) sc_init__.nd rfl (Or.inl rfl)) pgs_nil)))) (fun _ _ _ _ _ => pts_nil) (fun _ _ _ _ _ => (pv 2)) (fun _ _ _ _ _ => (pv 5))) rfl)))))), ?_⟩
  have hlen : ts.length = rows.length := hT.1
  have R8 : rows.length ≤ 8 := by have := R.len; omega
  have npx : p ≠ x := ne_of hp hx (fun e => nomatch e)
  refine ⟨_, rfl, p, ts, rows, rfl, hp, hT, R, fun H1 s1 => ?_⟩
  refine ⟨_, rfl, _, rfl, x, C, dx, _, rfl, s1 _ _ hx, B.cl, B.nR, (by show 0 < 1000; decide), ?_⟩
  generalize e2 : upd H1 x (.ins C dx (putF "rows" (.ref p) [])) = H2
  have hx2 : H2 x = some (.ins C dx [(("rows" : Str), V.ref p)]) := by rw [← e2, upd_same]; rfl
  have k2 : Kp x H H2 := by rw [← e2]; exact (Kp.same s1).upd
  have tk1 : ∀ {H H' : Hp} {fs : List (Str × V)}, H x = some (.ins C dx fs) → Kp x H H' → TK H H' := fun h q t xs ht => q t _ ht (ne_of ht h (fun e => nomatch e))
  have tk2 := tk1 hx k2
  have hp2 : H2 p = some (.tup (ts.map V.ref)) := tk2 _ _ hp
  have hT2 := hT.keep tk2
  clear e2
  -- kinds
  refine ⟨_, rfl, p, rfl, ⟨_, SqT.of hp2⟩, fun D hD => lc_it (walk_tup (xs := ts.map V.ref)) (fun i H' => Same H2 H' ∧ H' D = some (.lst (((rows.map (·.1)).take i).map V.str))) ⟨(Same.refl H2).upd_new hD, upd_same⟩ (fun i H' _ ⟨q, _⟩ => SqT.of (q _ _ hp2)) ?_ ?_⟩
  · rintro i v H3 H4 hi ⟨q1, q2⟩ ⟨rfl, hv⟩
    have hir : i < rows.length := by rw [List.length_map, hlen] at hi; exact hi
    obtain ⟨t, t1, t2, t3⟩ := hT2.at hir
    rw [t2] at hv
    cases hv
    refine ⟨t, _, rfl, SqT.of (q1 _ _ t3), rfl, _, _, rfl, _, _, rfl, rfl, rfl, ?_⟩
    refine ⟨_, rfl, _, q2, ?_, q1.upd_own hD, ?_⟩
    · rw [List.length_map, List.length_take]
      exact lt_line (by omega)
    · have hg : (rows.map (·.1))[i]? = some (rows[i]).1 := by rw [List.getElem?_map, List.getElem?_eq_getElem hir]; rfl
      rw [upd_same, ← take_snoc hg, List.map_append]
      rfl
  rintro H3 ⟨q1, q2⟩
  rw [show (ts.map V.ref).length = (rows.map (·.1)).length by rw [List.length_map, List.length_map, hlen], List.take_length] at q2
  refine ⟨D, _, rfl, .inl ⟨SqL.of q2, fun l hl => ?_⟩⟩
  have nlx : l ≠ x := (ne_of_none (q1 _ _ hx2) hl).symm
  refine ⟨_, rfl, x, C, dx, _, rfl, (by rw [upd_ne nlx.symm]; exact q1 _ _ hx2), B.cl, B.nK, (by show 1 < 1000; decide), ?_⟩
  rw [put1]
  have k3 : Kp x H (upd H3 l (.tup ((rows.map (·.1)).map V.str))) := (k2.trans (Kp.same q1)).upd_new hl
  generalize e4 : upd (upd H3 l (.tup ((rows.map (·.1)).map V.str))) x (.ins C dx [(("rows" : Str), V.ref p), ("kinds", .ref l)]) = H4
  have hx4 : H4 x = some (.ins C dx [(("rows" : Str), V.ref p), ("kinds", .ref l)]) := by rw [← e4, upd_same]
  have k4 : Kp x H H4 := by rw [← e4]; exact k3.upd
  have hl4 : H4 l = some (.tup ((rows.map (·.1)).map V.str)) := by rw [← e4, upd_ne nlx, upd_same]
  have tk4 := tk1 hx k4
  have hp4 : H4 p = some (.tup (ts.map V.ref)) := tk4 _ _ hp
  have hT4 := hT.keep tk4
  clear e4
  -- widths
  refine ⟨_, rfl, p, rfl, ⟨_, SqT.of hp4⟩, fun D2 hD2 => dc_it (walk_tup (xs := ts.map V.ref)) (fun i H' => Same H4 H' ∧ H' D2 = some (.dK (wL (rows.take i)))) ⟨(Same.refl H4).upd_new hD2, upd_same⟩ (fun i H' _ ⟨q, _⟩ => SqT.of (q _ _ hp4)) ?_ ?_⟩
  · rintro i v H5 H6 hi ⟨p1, p2⟩ ⟨rfl, hv⟩
    have hir : i < rows.length := by rw [List.length_map, hlen] at hi; exact hi
    obtain ⟨t, t1, t2, t3⟩ := hT4.at hir
    rw [t2] at hv
    cases hv
    refine ⟨t, _, rfl, SqT.of (p1 _ _ t3), rfl, _, _, rfl, _, _, rfl, rfl, rfl, ?_⟩
    refine ⟨_, rfl, _, rfl, _, .inr (rows[i]).1, rfl, p2, ?_, p1.upd_own hD2, ?_⟩
    · unfold wL
      rw [List.length_map, List.length_take]
      exact lt_line (by omega)
    · rw [upd_same, putK_new, ← take_snoc (List.getElem?_eq_getElem hir)]
      · unfold wL
        rw [List.map_append]
        rfl
      · refine valV_none fun kv hk e => ?_
        obtain ⟨q, hq, rfl⟩ := List.mem_map.mp hk
        have z2 := nd_take (l := rows.map (·.1)) R.nd (i := i) (by rw [List.length_map]; exact hir)
        rw [List.getElem_map, ← List.map_take] at z2
        have e2 : q.1 = (rows[i]).1 := Sum.inr.inj e
        exact z2 (by rw [← e2]; exact List.mem_map_of_mem hq)
  rintro H5 ⟨p1, p2⟩
  rw [show (ts.map V.ref).length = rows.length by rw [List.length_map, hlen], List.take_length] at p2
  have nDx2 : D2 ≠ x := (ne_of_none hx4 hD2).symm
  refine ⟨_, rfl, x, C, dx, _, rfl, p1 _ _ hx4, B.cl, B.nW, (by show 2 < 1000; decide), ?_⟩
  rw [put2]
  generalize e6 : upd H5 x (.ins C dx [(("rows" : Str), V.ref p), ("kinds", .ref l), ("widths", .ref D2)]) = H6
  have hx6 : H6 x = some (.ins C dx [(("rows" : Str), V.ref p), ("kinds", .ref l), ("widths", .ref D2)]) := by rw [← e6, upd_same]
  have k46 : Kp x H4 H6 := by rw [← e6]; exact (Kp.same p1).upd
  have k6 : Kp x H H6 := k4.trans k46
  have hl6 : H6 l = some (.tup ((rows.map (·.1)).map V.str)) := k46 _ _ hl4 nlx
  have hw6 : H6 D2 = some (.dK (wL rows)) := by rw [← e6, upd_ne nDx2]; exact p2
  clear e6
  -- ranks
  refine ⟨_, rfl, x, C, dx, _, _, rfl, hx6, B.cl, B.nK, lk_k2 _ _ _, l, _, rfl, SqT.of hl6, fun D3 hD3 => dc_it (walk_enumT (xs := (rows.map (·.1)).map V.str)) (fun i H' => Same H6 H' ∧ H' D3 = some (.dK ((rkL (rows.map (·.1))).take i))) ⟨(Same.refl H6).upd_new hD3, upd_same⟩ (fun i H' _ ⟨q, _⟩ => SqT.of (q _ _ hl6)) ?_ ?_⟩
  · rintro i v H7 H8 hi ⟨p3, p4⟩ ⟨P1, v1, v2, rfl, hP1, rfl, e1, e2⟩
    have hir : i < rows.length := by rw [List.length_map, List.length_map] at hi; exact hi
    cases e1
    have e2' : ((rows.map (·.1)).map V.str)[i]? = some v2 := e2
    rw [List.getElem?_map, List.getElem?_map, List.getElem?_eq_getElem hir] at e2'
    cases e2'
    have hD3' : (upd H7 P1 (.tup [.int ((i : Nat) : Int), .str (rows[i]).1])) D3 = some (.dK ((rkL (rows.map (·.1))).take i)) := by rw [upd_ne (ne_of_none p4 hP1)]; exact p4
    refine ⟨P1, _, rfl, SqT.of upd_same, rfl, _, _, rfl, _, _, rfl, rfl, rfl, ?_⟩
    refine ⟨_, rfl, _, rfl, _, .inr (rows[i]).1, rfl, hD3', ?_, (p3.upd_new hP1).upd_own hD3, ?_⟩
    · rw [List.length_take]
      unfold rkL
      rw [List.length_map, List.length_zipIdx, List.length_map]
      exact lt_line (by omega)
    · have hg : (rkL (rows.map (·.1)))[i]? = some (.inr (rows[i]).1, .int ((i : Nat) : Int)) := by
        unfold rkL
        rw [List.getElem?_map, List.getElem?_zipIdx, List.getElem?_map, List.getElem?_eq_getElem hir]
        simp
      rw [upd_same, putK_new, ← take_snoc hg]
      refine valV_none fun kv hk e => ?_
      obtain ⟨j, hj, ej⟩ := List.mem_iff_getElem.mp hk
      rw [List.length_take] at hj
      rw [List.getElem_take] at ej
      have hjr : j < rows.length := by omega
      have hg2 : (rkL (rows.map (·.1)))[j]? = some (.inr (rows[j]).1, .int ((j : Nat) : Int)) := by
        unfold rkL
        rw [List.getElem?_map, List.getElem?_zipIdx, List.getElem?_map, List.getElem?_eq_getElem hjr]
        simp
      have ej2 := List.getElem?_eq_getElem (l := rkL (rows.map (·.1))) (i := j) (by unfold rkL; rw [List.length_map, List.length_zipIdx, List.length_map]; exact hjr)
      rw [hg2] at ej2
      rw [← ej, ← Option.some.inj ej2] at e
      have e3 : (rows[j]).1 = (rows[i]).1 := Sum.inr.inj e
      have nd := R.nd
      have e4 : (rows.map (·.1))[j]'(by rw [List.length_map]; exact hjr) = (rows.map (·.1))[i]'(by rw [List.length_map]; exact hir) := by rw [List.getElem_map, List.getElem_map]; exact e3
      have := (List.getElem_inj nd).mp e4
      omega
  rintro H7 ⟨p3, p4⟩
  rw [show ((rows.map (·.1)).map V.str).length = (rkL (rows.map (·.1))).length by unfold rkL; simp, List.take_length] at p4
  have nDx3 : D3 ≠ x := (ne_of_none hx6 hD3).symm
  refine ⟨_, rfl, x, C, dx, _, rfl, p3 _ _ hx6, B.cl, B.nRk, (by show 3 < 1000; decide), ?_⟩
  rw [put3]
  have k8 : Kp x H (upd H7 x (.ins C dx (bedF p l D2 D3))) := (k6.trans (Kp.same p3)).upd
  refine k _ k8 ⟨dx, p, l, D2, D3, ts, upd_same, k8 _ _ hp npx, hT.keep (tk1 hx k8), ?_, ?_, ?_⟩
  · rw [upd_ne nlx]; exact p3 _ _ hl6
  · rw [upd_ne nDx2]; exact p3 _ _ hw6
  · rw [upd_ne nDx3]; exact p4
end
end Sh
end
section
set_option Elab.async false
set_option linter.all false
set_option maxRecDepth 100000
set_option maxHeartbeats 2000000
set_option autoImplicit false
namespace Sh
open PySem PySem.Spec PyProof.Rows L2
open C8 (pss_cut tCut)
open Evl (ixN_nat)
theorem ifn {c A B : Prop} [Decidable c] (h : ¬ c) (b : B) : if c then A else B := by
  rw [if_neg h]
  exact b
theorem ifp {c A B : Prop} [Decidable c] (h : c) (a : A) : if c then A else B := by
  rw [if_pos h]
  exact a
def spBedS (C : Addr) : Sp := fun vs H Q E => ∃ ws rest, vs = ws ++ rest ∧ ws.length = (["self"] : List Str).length ∧ rest.length ≤ sizeLine ∧ ∀ p, H p = Option.none → spBedI C (ws ++ [V.ref p]) (upd H p (.tup rest)) Q E
def BedOk (P : Program) (w : World) (K : PySem.W.Frag) (mg : Str → Option Value) (base : Heap) (C : Addr) (k : Nat) : Prop := mg "Bed" = some (.ref C) ∧ ∃ fI, Mk K C fI ∧ FnR P w K mg base CX0 k fI (spBedS C)
def spBed (C : Addr) : Sp := fun vs H Q _ => ∃ (ts : List Addr) (rows : List Row), vs = ts.map V.ref ∧ TupsAt H ts rows ∧ ROk 8 rows ∧ ∀ H' p, Same H H' → H p = none → BedAt C H' p rows → Q (.ref p) H'
theorem pe_bed {X : Cx} {C : Addr} {k : Nat} {e : Expr} {es : List Expr} {t : TA} {p pos : Pos} (D : BedOk X.prog X.w X.K X.mg X.base C k) (hr : Room (k + 1) X.A) (ha : PA X (e :: es) t) (hg : Gl X "Bed" := by rfl)
    (he : starEach (e :: es) X.env = (false, eval e X.env) :: starEach es X.env := by rfl) (hpl : (backTo pos (starEach es X.env)).any (·.1) = false := by rfl) :
    PE X (.Call (.Name "Bed" p) (e :: es) [] pos) (tCallR (spBed C) E0 t) := by
  obtain ⟨hm, fI, M, F⟩ := D
  refine ⟨fun pins s σ H Q I h => ?_⟩
  refine wpAny_Call_Name_kw (ld_glob I hg hm ?_ (by decide))
  refine PySem.W.callWith_K (h₀ := X.base) I.ok.mod.kin M.kp (thn (ha.run pos pins s σ H _ I h) fun us s1 ⟨vs, H1, I1, r, q⟩ => ⟨I1.kIn, ?_⟩) he hpl
  obtain ⟨ts, rows, rfl, hT, R, k⟩ := q
  refine StX.run_makeR M F hr pass0 I1 r fun x dx hx hd hxd => ?_
  have s1 : Same H1 (upd (upd H1 dx (.own x)) x (.ins C dx [])) := ((Same.refl H1).upd_new hd).upd_own hx
  refine ⟨[.ref x], ts.map V.ref, rfl, rfl, ?_, fun p hp => ?_⟩
  · rw [List.length_map, hT.1]
    have := R.len
    exact le_line (by omega)
  have s2 := s1.upd_new (o := .tup (ts.map V.ref)) hp
  have nxp : x ≠ p := ne_of_none (upd_same (H := upd H1 dx (.own x)) (a := x)) hp
  refine ⟨x, dx, p, ts, rows, rfl, by rw [upd_ne nxp, upd_same], upd_same, hT.keep (TK.of_same s2), R, fun H' kk b => ⟨rfl, ?_⟩⟩
  exact k H' x (fun b o hb => kk b o (s2 b o hb) (ne_of_none hb hx)) hx b
section
variable {P : Program} {w : World} {K : PySem.W.Frag} {mg : Str → Option Value} {base : Heap} {C : Addr}
end
end Sh
end
section
set_option Elab.async false
set_option linter.all false
set_option maxRecDepth 100000
set_option maxHeartbeats 2000000
set_option autoImplicit false
namespace Sh
open PySem PySem.Spec PyProof.Rows L2
open C8 (pss_cut tCut)
open Evl (ixN_nat)
structure Bk (mg : Str → Option Value) : Prop extends Bl mg where
  b_zip : mg "zip" = none
  b_ValueError : mg "ValueError" = none
def sV (l : List Str) : List V := l.map V.str
/-- the number of branches of a kind; 0 of what is no kind -/
def wR (rows : List Row) (z : Str) : Nat := match rows.find? (fun q => decide (q.1 = z)) with
  | some q => q.2.toNat
  | none => 0
/-- .. or -1 -/
def nmO (rows : List Row) (z : Str) : Int := match rows.find? (fun q => decide (q.1 = z)) with
  | some q => q.2
  | none => -1
theorem find_wL (rows : List Row) (z : Str) : valV (wL rows) (.inr z) = (rows.find? (fun q => decide (q.1 = z))).map fun q => V.int q.2 := by
  unfold valV wL
  rw [List.find?_map]
  have e : ((fun kv : Key × V => decide (kv.1 = Sum.inr z)) ∘ fun q : Row => ((.inr q.1 : Key), V.int q.2)) = fun q => decide (q.1 = z) := by
    funext q
    exact key_rr q.1 z
  rw [e, Option.map_map]
  rfl
theorem nm_case {rows : List Row} {m : Int} (R : ROk m rows) (z : Str) : (nmO rows z = -1 ∧ wR rows z = 0 ∧ valV (wL rows) (.inr z) = none ∧ ∀ q ∈ rows, q.1 ≠ z) ∨ (nmO rows z = ((wR rows z : Nat) : Int) ∧ wR rows z ≤ 3 ∧ valV (wL rows) (.inr z) = some (.int ((wR rows z : Nat) : Int)) ∧ ∃ q ∈ rows, q.1 = z) := by
  rw [find_wL]
  unfold nmO wR
  cases hf : rows.find? (fun q => decide (q.1 = z)) with
  | none => exact .inl ⟨rfl, rfl, rfl, fun q hq e => absurd (List.find?_eq_none.mp hf q hq) (by simp [e])⟩
  | some q =>
    have hm := List.mem_of_find?_eq_some hf
    have wd := R.wd q hm
    have e : ((q.2.toNat : Nat) : Int) = q.2 := by omega
    exact .inr ⟨e.symm, by show q.2.toNat ≤ 3; omega, by rw [Option.map_some]; show some (V.int q.2) = some (V.int ((q.2.toNat : Nat) : Int)); rw [e], q, hm, by have hp := List.find?_some hf; exact of_decide_eq_true hp⟩
theorem wR_le {rows : List Row} {m : Int} (R : ROk m rows) (z : Str) : wR rows z ≤ 3 := by
  rcases nm_case R z with h | h <;> omega
theorem wR_mem {rows : List Row} {m : Int} (R : ROk m rows) {z : Str} (h : ∃ q ∈ rows, q.1 = z) : ∃ q ∈ rows, q.1 = z ∧ rows.find? (fun q => decide (q.1 = z)) = some q ∧ ((wR rows z : Nat) : Int) = q.2 ∧ wR rows z ≤ 3 := by
  obtain ⟨q, hq, e⟩ := h
  cases hf : rows.find? (fun q => decide (q.1 = z)) with
  | none => exact absurd (List.find?_eq_none.mp hf q hq) (by simp [e])
  | some q2 =>
    have hm := List.mem_of_find?_eq_some hf
    have hp := List.find?_some hf
    have wd := R.wd q2 hm
    have ew : wR rows z = q2.2.toNat := by unfold wR; rw [hf]
    exact ⟨q2, hm, of_decide_eq_true hp, rfl, by rw [ew]; omega, by rw [ew]; omega⟩
theorem val_wL {rows : List Row} {m : Int} (R : ROk m rows) {z : Str} (h : ∃ q ∈ rows, q.1 = z) : valV (wL rows) (.inr z) = some (.int ((wR rows z : Nat) : Int)) := by
  obtain ⟨q, _, _, hf, e, _⟩ := wR_mem R h
  rw [find_wL, hf, e]
  rfl
structure PlantOk (rows : List Row) (l : List Str) : Prop where
  f : Mth.forest (wR rows) l 1 = true
  k : ∀ z ∈ l, ∃ q ∈ rows, q.1 = z
  sz : l.length ≤ 2000
theorem PlantOk.pos {rows : List Row} {l : List Str} (x : PlantOk rows l) : 0 < l.length := List.length_pos_iff.mpr (Mth.forest_pos _ x.f)
/-- a stump -/
structure StumpOk (rows : List Row) (l : List Str) : Prop where
  f : Mth.forest (wR rows) l 1 = true
  k : ∀ z ∈ l, z = "*" ∨ ∃ q ∈ rows, q.1 = z
  sz : l.length ≤ 2000
theorem StumpOk.pos {rows : List Row} {l : List Str} (x : StumpOk rows l) : 0 < l.length := List.length_pos_iff.mpr (Mth.forest_pos _ x.f)
/-- the least place at which a row stops being one -/
def wO (rows : List Row) (hole : Bool) (z : Str) : Option Nat := if hole = true ∧ z = "*" then some 0 else if nmO rows z < 0 then none else some (wR rows z)
def fl (f : Str → Option Nat) : List Str → Nat → Nat → Option Nat
  | [], 0, _ => none
  | [], _ + 1, i => some i
  | _ :: _, 0, i => some i
  | z :: r, n + 1, i => match f z with
    | none => some i
    | some k => fl f r (n + k) (i + 1)
def fault (rows : List Row) (hole : Bool) (l : List Str) : Option Nat := fl (wO rows hole) l 1 0
theorem fl_ok {f : Str → Option Nat} {w : Str → Nat} : ∀ {l : List Str} {n i : Nat}, (∀ z k, f z = some k → w z = k) → fl f l n i = none → Mth.forest w l n = true ∧ ∀ z ∈ l, (f z).isSome = true
  | [], 0, _, _, _ => ⟨rfl, fun _ h => nomatch h⟩
  | [], _ + 1, _, _, h => nomatch h
  | _ :: _, 0, _, _, h => nomatch h
  | z :: r, n + 1, i, hw, h => by
    unfold fl at h
    cases e : f z with
    | none => rw [e] at h; cases h
    | some k =>
      rw [e] at h
      obtain ⟨h1, h2⟩ := fl_ok hw h
      refine ⟨?_, fun y hy => ?_⟩
      · unfold Mth.forest
        rw [hw z k e, Nat.add_comm]
        exact h1
      · rcases List.mem_cons.mp hy with q | q
        · rw [q, e]; rfl
        · exact h2 y q
theorem fl_le {f : Str → Option Nat} : ∀ {l : List Str} {n i j : Nat}, fl f l n i = some j → j ≤ i + l.length
  | [], 0, _, _, h => nomatch h
  | [], _ + 1, i, j, h => by cases h; exact Nat.le_refl _
  | _ :: _, 0, i, j, h => by cases h; omega
  | z :: r, n + 1, i, j, h => by
    unfold fl at h
    rw [List.length_cons]
    cases e : f z with
    | none => rw [e] at h; cases h; omega
    | some k => rw [e] at h; have := fl_le h; omega
theorem nm_star {rows : List Row} {m : Int} (R : ROk m rows) : nmO rows "*" = -1 := by
  rcases nm_case R "*" with q | q
  · exact q.1
  · obtain ⟨_, _, _, x, hx, e⟩ := q
    have n := (R.nm x hx).2.2 42 (by rw [e]; decide +kernel)
    omega
theorem wO_w {rows : List Row} {m : Int} (R : ROk m rows) {hole : Bool} {z : Str} {k : Nat} (h : wO rows hole z = some k) : wR rows z = k := by
  unfold wO at h
  split at h
  · rename_i c
    cases h
    rw [c.2]
    have star := nm_star R
    rcases nm_case R "*" with q | q
    · exact q.2.1
    · omega
  · split at h
    · cases h
    · cases h
      rfl
end Sh
end
section
set_option Elab.async false
set_option linter.all false
set_option maxRecDepth 100000
set_option maxHeartbeats 2000000
set_option autoImplicit false
namespace Sh
open PySem PySem.Spec PyProof.Rows L2
open C8 (pss_cut tCut)
open Evl (ixN_nat)
theorem RowsAt.same {H H' : Hp} {r : Addr} {rows : List Row} (x : RowsAt H r rows) (s : Same H H') : RowsAt H' r rows := by
  obtain ⟨ts, a, b⟩ := x
  exact ⟨ts, s _ _ a, b.keep (TK.of_same s)⟩
structure XA where
  T : Addr
  P : Addr
  S : Addr
  N : Addr
  U : Addr
  W : Addr
inductive Ex where
  | many
  | plant (i : Nat)
  | stump (i : Nat)
  | path (a : Addr)
  | kind (z : Str)
  | wrong (i j : Nat)
def Ex.cls (A : XA) : Ex → Addr
  | .many => A.T
  | .plant _ => A.P
  | .stump _ => A.S
  | .path _ => A.N
  | .kind _ => A.U
  | .wrong _ _ => A.W
def tmF : List (Str × V) := xfs ["what", "limit"] [.str "knots", .int 2000] []
def Ex.fs : Ex → List (Str × V)
  | .many => tmF
  | .plant i => xfs ["place"] [.int (i : Nat)] []
  | .stump i => xfs ["place"] [.int (i : Nat)] []
  | .path a => xfs ["path"] [.ref a] []
  | .kind z => xfs ["kind"] [.str z] []
  | .wrong i j => xfs ["wanted", "given"] [.int (i : Nat), .int (j : Nat)] []
def tmP : List V → Prop := fun vs => vs = [.str "knots", .int 2000]
def plP : List V → Prop := fun vs => ∃ i : Nat, vs = [.int (i : Nat)] ∧ i ≤ 10000
/-- a drawn word: short, of code points that are ones -/
def Kin (z : Str) : Prop := z.length ≤ 100 ∧ ∀ c ∈ z.cps.toList, c < 16 ^ 8
def ukP : List V → Prop := fun vs => ∃ z : Str, vs = [.str z] ∧ Kin z
def wrP : List V → Prop := fun vs => ∃ i j : Nat, vs = [.int (i : Nat), .int (j : Nat)] ∧ i ≤ 10000 ∧ j ≤ 10000
structure XS (P : Program) (w : World) (K : PySem.W.Frag) (mg : Str → Option Value) (A : XA) : Prop where
  xT : PySem.SupX.SupCls P w K mg "TooMany" A.T ["what", "limit"] tmP
  xP : PySem.SupX.SupCls P w K mg "InvalidPlant" A.P ["place"] plP
  xU : PySem.SupX.SupCls P w K mg "UnknownKind" A.U ["kind"] ukP
  xW : PySem.SupX.SupCls P w K mg "WrongBranches" A.W ["wanted", "given"] wrP
/-- what is wanted where x is raised -/
def Rz (A : XA) (E : XK) (H : Hp) (x : Ex) : Prop := ∀ H' d, Same H H' → H' d = none → E (.ref (x.cls A)) (some d) (upd H' d (.xd x.fs))
theorem Rz.same {A : XA} {E : XK} {H H1 : Hp} {x : Ex} (h : Rz A E H x) (s : Same H H1) : Rz A E H1 x := fun H' d s' hd => h H' d (s.trans s') hd
def due (rows : List Row) (hole : Bool) (l : List Str) : Option Ex := if 2000 < l.length then some .many else (fault rows hole l).map (if hole = true then Ex.stump else Ex.plant)
/-- either way -/
def Way (A : XA) (E : XK) (H : Hp) (o : Option Ex) (ok : Prop) : Prop := match o with
  | none => ok
  | some x => Rz A E H x
theorem wO_some {rows : List Row} {m : Int} (R : ROk m rows) {hole : Bool} {z : Str} (h : (wO rows hole z).isSome = true) : (hole = true ∧ z = "*") ∨ ∃ q ∈ rows, q.1 = z := by
  unfold wO at h
  split at h
  · exact .inl ‹_›
  · rename_i c
    split at h
    · cases h
    · rename_i c2
      rcases nm_case R z with q | q
      · omega
      · exact .inr q.2.2.2
theorem due_plant {rows : List Row} {m : Int} (R : ROk m rows) {l : List Str} (h : due rows false l = none) : PlantOk rows l := by
  unfold due at h
  split at h
  · cases h
  · rename_i c
    have e : fault rows false l = none := by
      cases e : fault rows false l with
      | none => rfl
      | some i => rw [e] at h; cases h
    obtain ⟨h1, h2⟩ := fl_ok (w := wR rows) (fun z k q => wO_w R q) e
    exact ⟨h1, fun z hz => by rcases wO_some R (h2 z hz) with q | q; exact absurd q.1 (by decide); exact q, by omega⟩
def lvs (hole : Bool) : List V := if hole = true then [.str "*"] else []
def spSize (K : PySem.W.Frag) (CT : Addr) : Sp := fun vs H Q E => ∃ (t : Addr) (xs : List V), vs = [.ref t] ∧ (SqL K H t xs ∨ SqT K H t xs) ∧ (xs.length ≤ 2000 → Q .non H) ∧ (2000 < xs.length → ∀ d, H d = none → E (.ref CT) (some d) (upd H d (.xd tmF)))
def ansF : Option Nat → V
  | none => .non
  | some i => .int (i : Nat)
def spFault (C : Addr) : Sp := fun vs H Q _ => ∃ (b t e : Addr) (rows : List Row) (l : List Str) (hole : Bool), vs = [.ref b, .ref t, .ref e] ∧ BedAt C H b rows ∧ ROk 8 rows ∧ Tq H t (sV l) ∧ l.length ≤ 6000 ∧ Tq H e (lvs hole) ∧ ∀ H', Same H H' → Q (ansF (fault rows hole l)) H'
/-- a check of a row -/
def spChk (C : Addr) (A : XA) (hole : Bool) : Sp := fun vs H Q E => ∃ (b t : Addr) (rows : List Row) (l : List Str), vs = [.ref b, .ref t] ∧ BedAt C H b rows ∧ ROk 8 rows ∧ Tq H t (sV l) ∧ l.length ≤ 6000 ∧ Way A E H (due rows hole l) (∀ H', Same H H' → Q .non H')
abbrev N_check_size : List Str := ["entries"]
theorem sc_check_size : FnScope N_check_size ["entries"] (defScope s_check_size) := ⟨rfl, rfl, rfl, by decide +kernel, rfl, by decide +kernel, by decide +kernel⟩
abbrev N_fault_place : List Str := ["bed", "entries", "leaves", "missing", "place", "entry"]
theorem sc_fault_place : FnScope N_fault_place ["bed", "entries", "leaves"] (defScope s_fault_place) := ⟨rfl, rfl, rfl, by decide +kernel, rfl, by decide +kernel, by decide +kernel⟩
abbrev N_check_plant : List Str := ["bed", "plant", "place"]
theorem sc_check_plant : FnScope N_check_plant ["bed", "plant"] (defScope s_check_plant) := ⟨rfl, rfl, rfl, by decide +kernel, rfl, by decide +kernel, by decide +kernel⟩
section
variable {P : Program} {w : World} {K : PySem.W.Frag} {mg : Str → Option Value} {base : Heap} {C : Addr} {A : XA}
theorem ok_check_size (T : Bk mg) (x : XS P w K mg A) (D : Def0 K mg "check_size" s_check_size) : DefOk P w K mg base (L2.CX P w) 2 "check_size" (spSize K A.T) := by
  have x_TooMany := x.xT
  refine D.okX sc_check_size (fun vs H Q E h => ?_) (fun _ _ _ _ _ _ us hl => match us, hl with | [_], _ => rfl) (fun f cdv A outer s H vs Q E hr h => ?_)
  · obtain ⟨t, xs, rfl, _⟩ := h
    rfl
  · obtain ⟨t, xs, rfl, ht, k1, k2⟩ := h
    refine ⟨_, (pss_one (ps_if (pt_cmpR op_gt (pe_callB call_len_seq (by rfl) T.b_len boot_len (pa_cons (pv 0) pa_nil)) (pe_cI (by rfl) T.c_MOST_KNOTS) (nomark _))
        (pss_one (ps_raiseSup rfl x_TooMany hr (takes_of rfl rfl rfl rfl) (pa_cons pe_str (pa_cons (pe_cI (by rfl) T.c_MOST_KNOTS) pa_nil))))
        pss_nil)), ?_⟩
    refine ⟨_, rfl, t, _, rfl, ht, _, _, rfl, rfl, _, rfl, ?_⟩
    refine ite2 (fun h => ?_) (fun h => ?_)
    · exact ⟨rfl, rfl, fun d hd => k2 (by have := of_decide_eq_true h; omega) d hd⟩
    · exact k1 (by have : ¬ (2000 : Int) < ((xs.length : Nat) : Int) := fun q => h (decide_eq_true q); omega)
theorem ok_fault_place (T : Bk mg) (B : BedT K C) (D : Def0 K mg "fault_place" s_fault_place) : DefOk P w K mg base CX0 1 "fault_place" (spFault C) := by
  refine D.ok sc_fault_place (fun vs H Q E h => ?_) (fun _ _ _ _ _ _ us hl => match us, hl with | [_, _, _], _ => rfl) (fun f cdv A outer s H vs Q E hr h => ?_)
  · obtain ⟨b, t, e, rows, l, hole, rfl, _⟩ := h
    rfl
  · obtain ⟨b, t, lv, rows, l, hole, rfl, hB, R, ht, hsz, he, k⟩ := h
    have hu := hu_of hr
    refine ⟨_, (pss_cons (ps_set (i := 3) sc_fault_place.nd rfl (Or.inl rfl) pe_int)
      (pss_cons (ps_for PassesOwn.never rfl (pi_enumT (by rfl) T.b_enumerate (pa_cons (pv 1) pa_nil)) (pg_tup (by rfl) (pgs_cons (pg_name (i := 4) sc_fault_place.nd rfl (Or.inl rfl)) (pgs_cons (pg_name (i := 5) sc_fault_place.nd rfl (Or.inl rfl)) pgs_nil)))
        (pss_cons (ps_if (pt_cmpR op_eq (pv 3) pe_int (nomark _))
          (pss_one (ps_ret (pv 4)))
          pss_nil)
        (pss_one (ps_if (pt_cmpR op_in_seq (pv 5) (pv 2) (by rfl))
          (pss_one (ps_set (i := 3) sc_fault_place.nd rfl (Or.inl rfl) (pe_op op_sub (pv 3) pe_int)))
          (pss_one (ps_if (pt_cmp (pc_din hu (pv 5) (pe_fld (pv 0) rfl)))
            (pss_one (ps_set (i := 3) sc_fault_place.nd rfl (Or.inl rfl) (pe_op op_add (pe_op op_sub (pv 3) pe_int) (pe_dget hu (pe_fld (pv 0) rfl) (pv 5) (fun _ _ => rfl)))))
            (pss_one (ps_ret (pv 4)))))))))
      (pss_one (ps_ret (pe_ifExp (pt_cmpR op_eq (pv 3) pe_int (nomark _)) pe_non (pe_callB call_len_seq (by rfl) T.b_len boot_len (pa_cons (pv 1) pa_nil))))))), ?_⟩
    refine ⟨_, rfl, t, _, rfl, ht.sq, for_it (walk_enumT (xs := sV l)) (fun i σ H' => ∃ (x y : Option V) (n : Nat), σ = [some (.ref b), some (.ref t), some (.ref lv), some (.int (n : Nat)), x, y] ∧ Same H H' ∧ fl (wO rows hole) (l.drop i) n i = fault rows hole l)
      ⟨none, none, 1, rfl, Same.refl H, rfl⟩ (fun i σ H' _ ⟨_, _, _, _, q, _⟩ => (ht.same q).sq) ?_ ?_⟩
    · rintro i v σ H1 H2 hi ⟨x, y, n, rfl, s1, hf⟩ ⟨P1, v1, v2, rfl, hP1, rfl, e1, e2⟩
      have hil : i < l.length := by unfold sV at hi; rw [List.length_map] at hi; exact hi
      cases e1
      have e2' : (l.map V.str)[i]? = some v2 := e2
      rw [List.getElem?_map, List.getElem?_eq_getElem hil] at e2'
      cases e2'
      have s2 := s1.upd_new (o := .tup [.int ((i : Nat) : Int), .str l[i]]) hP1
      rw [List.drop_eq_getElem_cons hil] at hf
      obtain ⟨dx, r, kk, ww, rk, ts, h1, h2, h3, h4, h5, h6⟩ := hB.same s2
      refine ⟨P1, _, rfl, SqT.of upd_same, rfl, _, _, rfl, _, _, rfl, rfl, ?_⟩
      refine ⟨_, rfl, rfl, _, rfl, ite2 (fun e => ?_) (fun e => ?_)⟩
      · have z := V.int.inj (of_decide_eq_true e)
        have z2 : n = 0 := by omega
        subst z2
        have q : some i = fault rows hole l := hf
        have k2 := k _ s2
        rw [← q] at k2
        exact ⟨_, rfl, k2⟩
      · obtain ⟨m, rfl⟩ : ∃ m, n = m + 1 := ⟨n - 1, by
          have : n ≠ 0 := fun q => e (by rw [q]; exact decide_eq_true rfl)
          omega⟩
        have hf2 : (match wO rows hole l[i] with | none => some i | some k => fl (wO rows hole) (l.drop (i + 1)) (m + k) (i + 1)) = fault rows hole l := hf
        have ein : inV (.str l[i]) (lvs hole) = decide (hole = true ∧ l[i] = "*") := by
          cases hole
          · simp [lvs]
            rfl
          · show inV (.str l[i]) ([("*" : Str)].map V.str) = _
            rw [inV_str]
            simp
        refine ⟨_, rfl, _, rfl, lv, _, rfl, .inr ((he.same s2).sq), rfl, (by cases hole <;> rfl), _, rfl, ?_⟩
        rw [ein]
        refine ite2 (fun c => ?_) (fun c => ?_)
        · have c2 := of_decide_eq_true c
          unfold wO at hf2
          rw [if_pos c2] at hf2
          refine ⟨_, rfl, _, _, rfl, rfl, some (.int ((i : Nat) : Int)), some (.str l[i]), m, ?_, s2, hf2⟩
          rw [show ((m : Nat) : Int) = ((m + 1 : Nat) : Int) - 1 by omega]
          rfl
        · have c2 : ¬ (hole = true ∧ l[i] = "*") := fun q => c (decide_eq_true q)
          refine ⟨_, rfl, _, rfl, b, C, dx, _, _, rfl, h1, B.cl, B.nW, lk_widths _ _ _ _, ww, _, rfl, DGet.k (k := .inr l[i]) h5, _, rfl, ?_⟩
          rcases nm_case R l[i] with q | q
          · rw [q.2.2.1]
            refine ifn (by decide) ?_
            unfold wO at hf2
            rw [if_neg c2, if_pos (show nmO rows l[i] < 0 by omega)] at hf2
            have k2 := k _ s2
            rw [← hf2] at k2
            exact ⟨_, rfl, k2⟩
          · rw [q.2.2.1]
            refine ifp rfl ?_
            unfold wO at hf2
            rw [if_neg c2, if_neg (show ¬ nmO rows l[i] < 0 by omega)] at hf2
            refine ⟨_, rfl, _, _, rfl, rfl, _, rfl, b, C, dx, _, _, rfl, h1, B.cl, B.nW, lk_widths _ _ _ _, _, rfl, ww, _, rfl, (by rw [← q.2.2.1]; exact DGet.k (k := .inr l[i]) h5), _, _, rfl, rfl, ?_⟩
            refine ⟨some (.int ((i : Nat) : Int)), some (.str l[i]), m + wR rows l[i], ?_, s2, hf2⟩
            rw [show ((m + wR rows l[i] : Nat) : Int) = ((m + 1 : Nat) : Int) - 1 + ((wR rows l[i] : Nat) : Int) by omega]
            rfl
    · rintro σ H1 ⟨x, y, n, rfl, s1, hf⟩
      have el : (sV l).length = l.length := by simp [sV]
      rw [el, List.drop_length] at hf
      have k2 := k _ s1
      cases n with
      | zero =>
        have q : none = fault rows hole l := hf
        rw [← q] at k2
        exact ⟨_, rfl, rfl, _, rfl, ifp (by simp) k2⟩
      | succ m =>
        have q : some l.length = fault rows hole l := hf
        rw [← q] at k2
        refine ⟨_, rfl, rfl, _, rfl, ifn (fun c => ?_) ⟨_, rfl, t, _, rfl, .inr ((ht.same s1).sq), ?_⟩⟩
        · have := V.int.inj (of_decide_eq_true c)
          omega
        · rw [el]
          exact k2
theorem fault_le {rows : List Row} {hole : Bool} {l : List Str} {i : Nat} (h : fault rows hole l = some i) : i ≤ l.length := by
  have := fl_le h
  omega
theorem ok_check_plant (T : Bk mg) (x : XS P w K mg A) (c_check_size : DefOk P w K mg base (L2.CX P w) 2 "check_size" (spSize K A.T)) (c_fault_place : DefOk P w K mg base CX0 1 "fault_place" (spFault C)) (D : Def0 K mg "check_plant" s_check_plant) : DefOk P w K mg base (L2.CX P w) 3 "check_plant" (spChk C A false) := by
  have x_InvalidPlant := x.xP
  refine D.okX sc_check_plant (fun vs H Q E h => ?_) (fun _ _ _ _ _ _ us hl => match us, hl with | [_, _], _ => rfl) (fun f cdv A outer s H vs Q E hr h => ?_)
  · obtain ⟨b, t, rows, l, rfl, _⟩ := h
    rfl
  · obtain ⟨b, t, rows, l, rfl, hB, R, ht, hsz, k⟩ := h
    refine ⟨_, (pss_cons (ps_expr (pe_d c_check_size (hr.mono (by decide)) (passes_call (takes_of rfl rfl rfl rfl) fun _ _ _ _ h => h) (pa_cons (pv 1) pa_nil)))
      (pss_cons (ps_set (i := 2) sc_check_plant.nd rfl (Or.inl rfl) (pe_d c_fault_place (hr.mono (by decide)) pass0 (pa_cons (pv 0) (pa_cons (pv 1) (pa_cons (pe_tup pa_nil) pa_nil)))))
      (pss_one (ps_if (pt_cmpR op_notN (pv 2) pe_non (nomark _))
        (pss_one (ps_raiseSup rfl x_InvalidPlant hr (takes_of rfl rfl rfl rfl) (pa_cons (pv 2) pa_nil)))
        pss_nil)))), ?_⟩
    have el : (sV l).length = l.length := by simp [sV]
    refine ⟨_, rfl, t, _, rfl, .inr ht.sq, fun hle => ?_, fun hgt d hd => ?_⟩
    · rw [el] at hle
      unfold due at k
      rw [if_neg (by omega)] at k
      refine ⟨_, rfl, _, rfl, Nat.zero_le _, fun e he => ?_⟩
      have s1 := (Same.refl H).upd_new (o := .tup []) he
      refine ⟨b, t, e, rows, l, false, rfl, hB.same s1, R, (ht.same s1), hsz, .of upd_same, fun H' s2 => ?_⟩
      have s3 := s1.trans s2
      cases hf : fault rows false l with
      | none =>
        rw [hf] at k
        exact ⟨_, rfl, rfl, _, rfl, ifn (by simp [ansF]) (k _ s3)⟩
      | some i =>
        rw [hf] at k
        refine ⟨_, rfl, rfl, _, rfl, ifp (by simp [ansF]) ⟨_, rfl, ⟨i, rfl, by have := fault_le hf; omega⟩, rfl, fun d hd => k _ d s3 hd⟩⟩
    · rw [el] at hgt
      unfold due at k
      rw [if_pos hgt] at k
      exact k _ d (Same.refl H) hd
end
end Sh
end
section
set_option Elab.async false
set_option linter.all false
set_option maxRecDepth 100000
set_option maxHeartbeats 2000000
set_option autoImplicit false
namespace Mth
end Mth
namespace Sh
open PySem PySem.Spec PyProof.Rows L2
open C8 (pss_cut tCut)
open Evl (ixN_nat)
structure WfOk (rows : List Row) (l : List Str) : Prop where
  f : Mth.forest (wR rows) l 1 = true
  sz : l.length ≤ 2000
theorem PlantOk.wf {rows : List Row} {l : List Str} (x : PlantOk rows l) : WfOk rows l := ⟨x.f, x.sz⟩
theorem StumpOk.wf {rows : List Row} {l : List Str} (x : StumpOk rows l) : WfOk rows l := ⟨x.f, x.sz⟩
theorem row_at {rows : List Row} {m : Int} (R : ROk m rows) {i : Nat} (h : i < rows.length) : ((wR rows (rows[i]).1 : Nat) : Int) = (rows[i]).2 := by
  obtain ⟨q, hq, e, hf, ew, _⟩ := wR_mem R ⟨rows[i], List.getElem_mem h, rfl⟩
  obtain ⟨j, hj, ej⟩ := List.mem_iff_getElem.mp hq
  have h1 : (rows.map (·.1))[j]'(by rw [List.length_map]; exact hj) = (rows.map (·.1))[i]'(by rw [List.length_map]; exact h) := by
    rw [List.getElem_map, List.getElem_map, ej, e]
  have e2 := (List.getElem_inj R.nd).mp h1
  subst e2
  rw [ew, ← ej]
/-- tuples of what f says -/
def TsAt {α : Type} (f : α → List V) (H : Hp) (ts : List Addr) (xs : List α) : Prop := ts.length = xs.length ∧ ∀ (i : Nat) (t : Addr) (x : α), ts[i]? = some t → xs[i]? = some x → Tq H t (f x)
theorem TsAt.keep {α : Type} {f : α → List V} {H H' : Hp} {ts : List Addr} {xs : List α} (x : TsAt f H ts xs) (k : TQ H H') : TsAt f H' ts xs := ⟨x.1, fun i t q a b => k _ _ (x.2 i t q a b)⟩
theorem TsAt.nil {α : Type} {f : α → List V} {H : Hp} : TsAt f H [] [] := ⟨rfl, fun i t x a => by simp at a⟩
theorem TsAt.snoc {α : Type} {f : α → List V} {H : Hp} {ts : List Addr} {xs : List α} {t : Addr} {q : α} (x : TsAt f H ts xs) (h : Tq H t (f q)) : TsAt f H (ts ++ [t]) (xs ++ [q]) := by
  refine ⟨by rw [List.length_append, List.length_append, x.1]; rfl, fun i u y a b => ?_⟩
  by_cases e : i < ts.length
  · rw [List.getElem?_append_left e] at a
    rw [List.getElem?_append_left (by rw [← x.1]; exact e)] at b
    exact x.2 i u y a b
  · rw [List.getElem?_append_right (by omega)] at a
    rw [List.getElem?_append_right (by rw [← x.1]; omega), ← x.1] at b
    have z : i - ts.length = 0 := by
      have := lt_of_get a
      simp at this
      omega
    rw [z] at a b
    cases a
    cases b
    exact h
theorem TsAt.at {α : Type} {f : α → List V} {H : Hp} {ts : List Addr} {xs : List α} (x : TsAt f H ts xs) {i : Nat} (h : i < xs.length) : ∃ t, ts[i]? = some t ∧ (ts.map V.ref)[i]? = some (.ref t) ∧ Tq H t (f xs[i]) := by
  have h2 : i < ts.length := by rw [x.1]; exact h
  exact ⟨ts[i], List.getElem?_eq_getElem h2, by rw [List.getElem?_map, List.getElem?_eq_getElem h2]; rfl, x.2 i _ _ (List.getElem?_eq_getElem h2) (List.getElem?_eq_getElem h)⟩
section
variable {P : Program} {w : World} {K : PySem.W.Frag} {mg : Str → Option Value} {base : Heap} {C CT : Addr}
end
end Sh
end
section
set_option Elab.async false
set_option linter.all false
set_option maxRecDepth 100000
set_option maxHeartbeats 2000000
set_option autoImplicit false
namespace Mth
/-- the branch at a place -/
def cut {α : Type} (w : α → Nat) (l : List α) (a : Nat) : List α := (l.drop a).take (nxs w l a 1 - a)
def wd {α : Type} (w : α → Nat) (l : List α) (p : Nat) : Nat := match l[p]? with
  | some k => w k
  | none => 0
end Mth
namespace Sh
open PySem PySem.Spec PyProof.Rows L2
open C8 (pss_cut tCut)
open Evl (ixN_nat)
theorem valV_rk {ns : List Str} (nd : ns.Nodup) {j : Nat} (h : j < ns.length) : valV (rkL ns) (.inr ns[j]) = some (.int ((j : Nat) : Int)) := by
  unfold valV rkL
  rw [List.find?_map]
  have e : ((fun kv : Key × V => decide (kv.1 = Sum.inr ns[j])) ∘ fun q : Str × Nat => ((.inr q.1 : Key), V.int ((q.2 : Nat) : Int))) = fun q => decide (q.1 = ns[j]) := by
    funext q
    exact key_rr q.1 _
  rw [e]
  have hm : (ns[j], j) ∈ ns.zipIdx := by
    rw [List.mem_iff_getElem?]
    exact ⟨j, by rw [List.getElem?_zipIdx, List.getElem?_eq_getElem h]; simp⟩
  cases hf : ns.zipIdx.find? (fun q => decide (q.1 = ns[j])) with
  | none => exact absurd (List.find?_eq_none.mp hf _ hm) (by simp)
  | some q =>
    have h1 := List.mem_of_find?_eq_some hf
    have h2 : q.1 = ns[j] := by simpa using List.find?_some hf
    obtain ⟨i, hi, ei⟩ := List.mem_iff_getElem.mp h1
    rw [List.getElem_zipIdx] at ei
    rw [List.length_zipIdx] at hi
    rw [← ei] at h2
    have h3 := (List.getElem_inj nd).mp h2
    subst h3
    rw [← ei]
    simp
/-- the ranks of a plant's knots -/
def RanksOf (ns : List Str) (l : List Str) (ks : List Int) : Prop := ks.length = l.length ∧ ∀ (i : Nat) (z : Str), l[i]? = some z → ∃ j : Nat, ns[j]? = some z ∧ ks[i]? = some ((j : Nat) : Int)
theorem RanksOf.uniq {ns l : List Str} (nd : ns.Nodup) {ks ks' : List Int} (x : RanksOf ns l ks) (y : RanksOf ns l ks') : ks = ks' := by
  refine List.ext_getElem? fun i => ?_
  by_cases h : i < l.length
  · obtain ⟨j, a, b⟩ := x.2 i _ (List.getElem?_eq_getElem h)
    obtain ⟨j', a', b'⟩ := y.2 i _ (List.getElem?_eq_getElem h)
    obtain ⟨hj, ej⟩ := List.getElem?_eq_some_iff.mp a
    obtain ⟨hj', ej'⟩ := List.getElem?_eq_some_iff.mp a'
    have := (List.getElem_inj nd).mp (ej.trans ej'.symm)
    subst this
    rw [b, b']
  · have a := x.1
    have b := y.1
    rw [List.getElem?_eq_none (by omega), List.getElem?_eq_none (by omega)]
theorem RanksOf.snoc {ns l : List Str} {ks : List Int} {i j : Nat} {z : Str} (x : RanksOf ns (l.take i) ks) (h : l[i]? = some z) (hj : ns[j]? = some z) : RanksOf ns (l.take (i + 1)) (ks ++ [((j : Nat) : Int)]) := by
  have hi := lt_of_get h
  have hk : ks.length = i := by rw [x.1, List.length_take]; omega
  refine ⟨by rw [List.length_append, hk, List.length_take]; simp; omega, fun k u hu => ?_⟩
  rw [← take_snoc h] at hu
  by_cases e : k < i
  · rw [List.getElem?_append_left (by rw [List.length_take]; omega)] at hu
    obtain ⟨j', a, b⟩ := x.2 k u hu
    exact ⟨j', a, by rw [List.getElem?_append_left (by omega)]; exact b⟩
  · have hlt := lt_of_get hu
    rw [List.length_append, List.length_take] at hlt
    have ek : k = i := by simp at hlt; omega
    subst ek
    rw [List.getElem?_append_right (by rw [List.length_take]; omega), List.length_take] at hu
    rw [show k - min k l.length = 0 by omega] at hu
    cases hu
    exact ⟨j, hj, by rw [List.getElem?_append_right (by omega), hk, Nat.sub_self]; rfl⟩
theorem Way.same {A : XA} {E : XK} {H H1 : Hp} {p q : Prop} (s : Same H H1) (h : p → q) : ∀ {o : Option Ex}, Way A E H o p → Way A E H1 o q
  | none, k => h k
  | some _, k => Rz.same k s
section
variable {P : Program} {w : World} {K : PySem.W.Frag} {mg : Str → Option Value} {base : Heap} {C CT : Addr} {A : XA}
end
end Sh
end
section
set_option Elab.async false
set_option linter.all false
set_option maxRecDepth 100000
set_option maxHeartbeats 2000000
set_option autoImplicit false
namespace Mth
end Mth
namespace Sh
open PySem PySem.Spec PyProof.Rows L2
open C8 (pss_cut tCut)
open Evl (ixN_nat)
theorem Def0.star {P : Program} {w : World} {K : PySem.W.Frag} {mg : Str → Option Value} {base : Heap} {k : Nat} {x : Str} {sp : Sp} {st : Stmt} {N ps : List Str} {pv : Str} (D : Def0 K mg x st) (S : FnScope N (ps ++ [pv]) (defScope st))
    (hb : ∀ (kV doc pm : Value) (an : Option Addr) (cdv ct : Value) (us rest : List Value), us.length = ps.length → bindArgs (PySem.W.fnOf x x (defArgs st) (defBody st) (defScope st) .none kV doc pm an cdv ct) ⟨us ++ rest, []⟩ = (newTuple rest >>= fun t => pure (ps.zip us ++ [(pv, t)])))
    (hbody : ∀ (f : Addr) (cdv : Value) (A : Around) (outer : List Env) (s : Shared) (H : Hp) (vs : List V) (Q : VK) (E : XK), Room k (A.deeper (envOfC x (defScope st) s.heap.objs.size f cdv)) → sp vs H Q E →
      ∃ t, PSs (cxOf (L2.CX P w) P w K mg base N x (defScope st) f cdv A outer s H E) (defBody st) t ∧ t { nx := fun _ H' => Q .non H', rt := Q } (start N vs) H) :
    DefOk P w K mg base (L2.CX P w) (k + 1) x (fun vs H Q E => ∃ ws rest, vs = ws ++ rest ∧ ws.length = ps.length ∧ rest.length ≤ sizeLine ∧ ∀ p, H p = Option.none → sp (ws ++ [V.ref p]) (upd H p (.tup rest)) Q E) := by
  obtain ⟨f, fd, hm, F⟩ := D
  obtain ⟨oc, od, dV, kV, doc, pm, an, cdv, ct, osl, rfl, lk, hcd, hdv, _⟩ := F.ex
  have hd : dV = .none := by
    rcases hdv with ⟨_, h⟩ | h
    · exact h
    · exact absurd rfl h.1
  subst hd
  exact ⟨f, hm, F.kp, StX.fn_star lk hcd S StX.cxUp (hb kV doc pm an cdv ct) fun A outer s H vs Q E hr hsp => hbody f cdv A outer s H vs Q E hr hsp⟩
theorem slA_lo {K : PySem.W.Frag} {H : Hp} {a : Addr} {xs : List V} {Q : VK} {j : Nat} (ha : Tq H a xs) (hj : j ≤ xs.length) (k : ∀ r H', Same H H' → Tq H' r (xs.take j) → Q (.ref r) H') : rSlA K (.ref a) none (some (j : Int)) H Q := by
  have e2 : HT.sIx xs.length xs.length (some (j : Int)) = j := by rw [HT.sIx_nat]; omega
  have e1 : HT.sIx xs.length 0 none = 0 := rfl
  refine ⟨a, xs, rfl, ha.sq, fun h => ?_, fun _ p hp => ?_⟩
  · rw [e2] at h
    refine k a H (Same.refl H) ?_
    rw [h.2, List.take_length]
    exact ha
  · have hc : cutV xs none (some (j : Int)) = xs.take j := by
      unfold cutV
      rw [e1, e2, List.drop_zero, Nat.sub_zero]
    rw [hc]
    exact k p _ ((Same.refl H).upd_new hp) (.of upd_same)
theorem slA_hi {K : PySem.W.Frag} {H : Hp} {a : Addr} {xs : List V} {Q : VK} {i : Nat} (ha : Tq H a xs) (hi : i ≤ xs.length) (k : ∀ r H', Same H H' → Tq H' r (xs.drop i) → Q (.ref r) H') : rSlA K (.ref a) (some (i : Int)) none H Q := by
  have e1 : HT.sIx xs.length 0 (some (i : Int)) = i := by rw [HT.sIx_nat]; omega
  have e2 : HT.sIx xs.length xs.length none = xs.length := rfl
  refine ⟨a, xs, rfl, ha.sq, fun h => ?_, fun _ p hp => ?_⟩
  · rw [e1] at h
    refine k a H (Same.refl H) ?_
    rw [h.1, List.drop_zero]
    exact ha
  · have hc : cutV xs (some (i : Int)) none = xs.drop i := by
      unfold cutV
      rw [e1, e2]
      exact List.take_of_length_le (by rw [List.length_drop]; omega)
    rw [hc]
    exact k p _ ((Same.refl H).upd_new hp) (.of upd_same)
def put (w : Str → Nat) (l : List Str) (q : Nat) (o : List Str) : List Str := l.take q ++ o ++ l.drop (Mth.nxs w l q 1)
section
variable {P : Program} {w : World} {K : PySem.W.Frag} {mg : Str → Option Value} {base : Heap} {C CN CT : Addr} {A : XA}
end
end Sh
end
section
set_option Elab.async false
set_option linter.all false
set_option autoImplicit false
namespace Mth
variable {α : Type} [DecidableEq α]
section
variable (w : α → Nat) (hole : α)
end
/-- the first n entries of a stump, its holes filled -/
def fil (hole : α) (ls : List (List α)) (l : List α) : Nat → List α
  | 0 => []
  | i + 1 => fil hole ls l i ++ match l[i]? with
    | some z => if z = hole then ls.getD ((l.take i).count hole) [] else [z]
    | none => []
end Mth
end
section
set_option Elab.async false
set_option linter.all false
set_option maxRecDepth 100000
set_option maxHeartbeats 2000000
set_option autoImplicit false
namespace L2
open PySem PySem.Spec PyProof.Rows
def ItzM (K : PySem.W.Frag) (a b : Addr) : It where
  go := fun i H => ∃ (xs ys : List V) (x y : V), SqL K H a xs ∧ SqT K H b ys ∧ xs[i]? = some x ∧ ys[i]? = some y
  yld := fun i H v H' => ∃ T x y, v = .ref T ∧ H T = none ∧ H' = upd H T (.tup [x, y]) ∧ (∀ xs, SqL K H a xs → xs[i]? = some x) ∧ ∀ ys, SqT K H b ys → ys[i]? = some y
  stop := fun i H => ∃ xs ys : List V, SqL K H a xs ∧ SqT K H b ys ∧ xs.length = ys.length ∧ xs.length = i
/-- how the five cells of it lie -/
structure ZmApart (z TI TO i1 i2 a b : Addr) : Prop where
  s : ZipSep2 z TI TO i1 i2 [i1, a] [i2, b]
  a1 : a ≠ i1
  b2 : b ≠ i2
def zmCells (z TI TO i1 i2 : Addr) : List Addr := [z, TI, TO, i1, i2]
theorem zm_out {z TI TO i1 i2 c : Addr} (h : c ∉ zmCells z TI TO i1 i2) : c ≠ z ∧ c ≠ TO ∧ c ≠ i1 ∧ c ≠ i2 := by
  unfold zmCells at h
  simp only [List.mem_cons, not_or] at h
  exact ⟨h.1, h.2.2.1, h.2.2.2.1, h.2.2.2.2.1⟩
def zmAt (z TI TO i1 i2 a b : Addr) (i : Nat) (h : Heap) : Prop :=
  IsZip h z TI TO .none ∧ IsTupOf2 h TI (.ref i1) (.ref i2) ∧ (∃ x y, IsTupOf2 h TO x y) ∧ h.IsListIter i1 a i ∧ h.IsTupleIter i2 b i
theorem turn_zipM {P : Program} {w : World} {K : PySem.W.Frag} {elts : List Expr} {kk : Nat} {tpos : Pos} {a b z TI TO i1 i2 : Addr} (D : ZmApart z TI TO i1 i2 a b) :
    Turn P w K (.Tuple elts kk tpos) (ItzM K a b) (zmCells z TI TO i1 i2) z (zmAt z TI TO i1 i2 a b) := by
  have mz : z ∈ zmCells z TI TO i1 i2 := by simp [zmCells]
  have mI : TI ∈ zmCells z TI TO i1 i2 := by simp [zmCells]
  have mO : TO ∈ zmCells z TI TO i1 i2 := by simp [zmCells]
  have m1 : i1 ∈ zmCells z TI TO i1 i2 := by simp [zmCells]
  have m2 : i2 ∈ zmCells z TI TO i1 i2 := by simp [zmCells]
  refine ⟨mz, ?_, ?_, ?_, ?_, ?_⟩
  · rintro i h ⟨hz, hI, ⟨x, y, hO⟩, ⟨o1, e1, _, d1⟩, ⟨o2, e2, _, d2⟩⟩ c hc
    simp only [zmCells, List.mem_cons, List.not_mem_nil, or_false] at hc
    rcases hc with rfl | rfl | rfl | rfl | rfl
    · exact ⟨_, hz, fun v q => nomatch q⟩
    · exact ⟨_, hI, fun v q => nomatch q⟩
    · exact ⟨_, hO, fun v q => nomatch q⟩
    · exact ⟨o1, e1, fun v q => by rw [d1] at q; cases q⟩
    · exact ⟨o2, e2, fun v q => by rw [d2] at q; cases q⟩
  · rintro i h h' ⟨hz, hI, ⟨x, y, hO⟩, h1, h2⟩ k
    exact ⟨k z mz _ hz, k TI mI _ hI, ⟨x, y, k TO mO _ hO⟩, h1.at fun o q => k i1 m1 o q, h2.at fun o q => k i2 m2 o q⟩
  · intro X eP ew eK calm i pins s σ H E I own st go
    subst eP ew eK
    obtain ⟨hz, hI, ⟨x0, y0, hO⟩, h1, h2⟩ := st
    obtain ⟨xs, ys, x, y, qa, qb, gx, gy⟩ := go
    obtain ⟨its, ra, pa, _⟩ := I.list qa
    obtain ⟨jts, rb, pb, _⟩ := I.tuple qb
    obtain ⟨u, gu, ru⟩ := ra.get gx
    obtain ⟨v, gv, rv⟩ := rb.get gy
    have lt1 : i < its.toArray.size := by simpa using (List.getElem?_eq_some_iff.mp gu).1
    have lt2 : i < jts.toArray.size := by simpa using (List.getElem?_eq_some_iff.mp gv).1
    have zl : z < s.heap.objs.size := Heap.lt_size hz
    refine wpAny_pyNext_zipD2_item D.s (Draws.list (prog := X.prog) (w := X.w) (A := X.A.in1) (I.ok.hd calm) i1 a D.a1 its.toArray) (Draws.tuple (prog := X.prog) (w := X.w) (A := X.A.in1) (I.ok.hd calm) i2 b D.b2 jts.toArray) hz hI hO ⟨h1, pa.isList⟩ ⟨h2, pb⟩ lt1 lt2 fun x1 x2 h' tk e1 e2 hz' hO' t1 t2 hT hsz keep => ?_
    have f1 : x1 = u := by
      have q : its.toArray[i]? = some x1 := e1
      have q2 : its[i]? = some x1 := by simpa using q
      exact Option.some.inj (q2.symm.trans gu)
    have f2 : x2 = v := by
      have q : jts.toArray[i]? = some x2 := e2
      have q2 : jts[i]? = some x2 := by simpa using q
      exact Option.some.inj (q2.symm.trans gv)
    subst f1 f2
    refine ⟨_, rfl, wpAny_letOwnedTupleGo_zip (s := { s with heap := h', toks := tk }) hz' fun h'' hz2 sb => ?_⟩
    have hT2 : h''.get? s.heap.objs.size = some { cls := .type "tuple", data := .seq #[x1, x2] } := (sb.2 _ (Nat.ne_of_gt zl)).trans hT
    have fr : H s.heap.objs.size = none := I.hok.fresh (Nat.le_refl _)
    have I1 : Inv X pins σ (upd H s.heap.objs.size (.tup [x, y])) { s with heap := h'', toks := tk } :=
      I.turnedNew (ch := zmCells z TI TO i1 i2) (fun c o hb q => (sb.2 c (zm_out hb).1).trans (keep c o (zm_out hb).1 (zm_out hb).2.1 (zm_out hb).2.2.1 (zm_out hb).2.2.2 q)) own (Nat.le_refl _)
        ⟨by show 2 ≤ sizeLine; decide, [x1, x2], .cons ru (.cons rv .nil), ⟨_, hT2, rfl, _, rfl⟩⟩
    refine ⟨.ref s.heap.objs.size, _, I1, rfl, ⟨_, x, y, rfl, fr, rfl, fun l hl => by rw [I.list_inj hl qa]; exact gx, fun l hl => by rw [I.tuple_inj hl qb]; exact gy⟩, ⟨hz2, ?_, ⟨x1, x2, ?_⟩, ?_, ?_⟩, fun c hcm => ?_⟩
    · exact (sb.2 _ D.s.TIz).trans (keep _ _ D.s.TIz D.s.TITO D.s.TIi1 D.s.TIi2 hI)
    · exact (sb.2 _ D.s.TOz).trans hO'
    · exact t1.1.at fun o q => (sb.2 _ (Ne.symm D.s.zi1)).trans q
    · exact t2.1.at fun o q => (sb.2 _ (Ne.symm D.s.zi2)).trans q
    · have lt : c < s.heap.objs.size := by
        simp only [zmCells, List.mem_cons, List.not_mem_nil, or_false] at hcm
        rcases hcm with rfl | rfl | rfl | rfl | rfl
        · exact zl
        · exact Heap.lt_size hI
        · exact Heap.lt_size hO
        · obtain ⟨_, q, _⟩ := h1; exact Heap.lt_size q
        · obtain ⟨_, q, _⟩ := h2; exact Heap.lt_size q
      rw [upd_ne (Nat.ne_of_lt lt)]
      exact (own c hcm).1
  · intro X eP ew eK calm i pins s σ H E I own st stop
    subst eP ew eK
    obtain ⟨hz, hI, ⟨x0, y0, hO⟩, h1, h2⟩ := st
    obtain ⟨xs, ys, qa, qb, el, ei⟩ := stop
    obtain ⟨its, ra, pa, _⟩ := I.list qa
    obtain ⟨jts, rb, pb, _⟩ := I.tuple qb
    have l1 := ra.length
    have l2 := rb.length
    refine wpAny_pyNext_zipD2_end D.s (Draws.list (prog := X.prog) (w := X.w) (A := X.A.in1) (I.ok.hd calm) i1 a D.a1 its.toArray) (Draws.tuple (prog := X.prog) (w := X.w) (A := X.A.in1) (I.ok.hd calm) i2 b D.b2 jts.toArray) hz hI hO ⟨h1, pa.isList⟩ ⟨h2, pb⟩ (by simp; omega) (by simp; omega) (.inl (by simp; omega)) fun h' tk keep => ?_
    exact ⟨rfl, I.turnedL (t' := tk) (ch := zmCells z TI TO i1 i2) (fun c o hb q => keep c o (zm_out hb).1 (zm_out hb).2.1 (zm_out hb).2.2.1 (zm_out hb).2.2.2 q) own⟩
  · intro A i s Q E st h
    exact wpAny_pyIter_zip st.1 h
def iZipM (K : PySem.W.Frag) (ta : TA) : TI := fun σ H R => ta σ H fun vs H1 => ∃ a b xs ys, vs = [.ref a, .ref b] ∧ SqL K H1 a xs ∧ SqT K H1 b ys ∧ R (ItzM K a b) H1
theorem pi_zipM {X : Cx} {e e2 : Expr} {ta : TA} {p pos tpos : Pos} {elts : List Expr} {kk : Nat} (hg : Gl X "zip") (hm : X.mg "zip" = none) (ha : PA X [e, e2] ta)
    (hs : starEach [e, e2] X.env = (false, eval e X.env) :: starEach [e2] X.env := by rfl) (hpl : (backTo pos (starEach [e2] X.env)).any (·.1) = false := by rfl) :
    PI X (.Tuple elts kk tpos) (.Call (.Name "zip" p) [e, e2] [] pos) (iZipM X.K ta) := by
  refine ⟨fun pins s σ H R I h => ?_⟩
  refine Call_ (ld_blt I hg hm boot_zip (callWith_type1 (thn (ha.run pos pins s σ H _ I h) fun us s1 ⟨vs, H1, I1, r1, q1⟩ => ?_) hs hpl))
  obtain ⟨a, b, xs, ys, ex, qa, qb, q⟩ := q1
  subst ex
  obtain ⟨u, u2, rfl, ru, ru2⟩ := vals2 r1
  cases ru
  cases ru2
  obtain ⟨its, ra, pa, _⟩ := I1.list qa
  obtain ⟨jts, rb, pb, _⟩ := I1.tuple qb
  have la : a < s1.heap.objs.size := pa.lt
  have lb : b < s1.heap.objs.size := by obtain ⟨_, z, _⟩ := id pb; exact Heap.lt_size z
  generalize hN : s1.heap.objs.size = N at la lb
  have la' : @LT.lt Nat _ a N := la
  have lb' : @LT.lt Nat _ b N := lb
  refine zip_begins2 (begins_list a its.toArray) (begins_tuple b jts.toArray) pa.isList pb fun h' hz hI hO g1 g2 hsz keep => wpAny_pyIter_zip hz ?_
  rw [hN] at hz hI hO g1 g2
  rw [hN]
  have D : ZmApart (N + 4) (N + 2) (N + 3) N (N + 1) a b := by
    refine ⟨?_, Nat.ne_of_lt la, Nat.ne_of_lt (Nat.lt_succ_of_lt lb)⟩
    constructor <;> first
      | (intro q; have q' : @Eq Nat _ _ := q; omega)
      | exact List.mem_cons_self
      | (intro q; rcases List.mem_cons.mp q with q | q
         · have q' : @Eq Nat _ _ := q; omega
         · have q' : @Eq Nat _ _ := List.mem_singleton.mp q; omega)
  refine ⟨N + 4, zmCells (N + 4) (N + 2) (N + 3) N (N + 1), _, _, H1, rfl, I1.kept (t' := s1.toks) keep, turn_zipM D, ⟨hz, hI, ⟨_, _, hO⟩, ⟨_, g1, rfl, rfl⟩, ⟨_, g2, rfl, rfl⟩⟩, fun c hc => ?_, q⟩
  have hle : s1.heap.objs.size ≤ c := by
    rw [hN]
    simp only [zmCells, List.mem_cons, List.not_mem_nil, or_false] at hc
    rcases hc with rfl | rfl | rfl | rfl | rfl
    · exact Nat.le_add_right _ _
    · exact Nat.le_add_right _ _
    · exact Nat.le_add_right _ _
    · exact Nat.le_refl _
    · exact Nat.le_add_right _ _
  exact I1.fpOk hle (I1.hok.fresh hle)
theorem walk_zipM {K : PySem.W.Frag} {a b : Addr} {xs ys : List V} {n : Nat} (h1 : xs.length = n) (h2 : ys.length = n) : Walk (ItzM K a b) n (fun H => SqL K H a xs ∧ SqT K H b ys) (YPair (fun i => xs[i]?) (fun i => ys[i]?)) := by
  refine ⟨fun i _ hi q => ⟨xs, ys, xs[i], ys[i], q.1, q.2, by simp [show i < xs.length by omega], by simp [show i < ys.length by omega]⟩, fun _ q => ⟨xs, ys, q.1, q.2, by omega, h1⟩, fun i H v H' _ q y => ?_⟩
  obtain ⟨T, x, z, e1, e2, e3, e4, e5⟩ := y
  exact ⟨T, x, z, e1, e2, e3, e4 xs q.1, e5 ys q.2⟩
end L2
end
section
set_option Elab.async false
set_option linter.all false
set_option maxRecDepth 100000
set_option maxHeartbeats 2000000
set_option autoImplicit false
namespace Sh
open PySem PySem.Spec PyProof.Rows L2
open C8 (pss_cut tCut)
open Evl (ixN_nat)
abbrev fill (ls : List (List Str)) (l : List Str) : List Str := Mth.fil ("*" : Str) ls l l.length
def RanksS (ns l : List Str) (ks : List Int) : Prop := ks.length = l.length ∧ ∀ (i : Nat) (z : Str), l[i]? = some z → (∃ j : Nat, ns[j]? = some z ∧ ks[i]? = some ((j : Nat) : Int)) ∨ (z = "*" ∧ ks[i]? = some ((ns.length : Nat) : Int))
theorem RanksS.snoc {ns l : List Str} {ks : List Int} {i : Nat} {z : Str} {k : Int} (x : RanksS ns (l.take i) ks) (h : l[i]? = some z) (hk : (∃ j : Nat, ns[j]? = some z ∧ k = ((j : Nat) : Int)) ∨ (z = "*" ∧ k = ((ns.length : Nat) : Int))) : RanksS ns (l.take (i + 1)) (ks ++ [k]) := by
  have hil := lt_of_get h
  have hx := x.1
  rw [List.length_take] at hx
  have hm : ks.length = i := by omega
  refine ⟨by rw [List.length_append, List.length_take, List.length_singleton]; omega, fun j y hj => ?_⟩
  rw [← take_snoc h] at hj
  by_cases e : j < i
  · rw [List.getElem?_append_left (by rw [List.length_take]; omega)] at hj
    rw [List.getElem?_append_left (by omega)]
    exact x.2 j y hj
  · have hj2 : j = i := by
      have q := lt_of_get hj
      rw [List.length_append, List.length_take, List.length_singleton] at q
      omega
    subst hj2
    rw [List.getElem?_append_right (by rw [List.length_take]; omega)] at hj
    rw [List.length_take, show j - min j l.length = 0 by omega] at hj
    cases hj
    rw [List.getElem?_append_right (by omega), hm, Nat.sub_self]
    rcases hk with ⟨n, a, b⟩ | ⟨a, b⟩
    · exact .inl ⟨n, a, by rw [b]; rfl⟩
    · exact .inr ⟨a, by rw [b]; rfl⟩
section
variable {P : Program} {w : World} {K : PySem.W.Frag} {mg : Str → Option Value} {base : Heap} {C : Addr} {A : XA}
end
end Sh
end
section
set_option Elab.async false
set_option linter.all false
set_option maxRecDepth 100000
set_option maxHeartbeats 2000000
set_option autoImplicit false
namespace Sh
open PySem PySem.Spec PyProof.Rows L2
open C8 (pss_cut tCut)
open Evl (ixN_nat)
/-- a pair of branches that stand at one place -/
def PairOk (rows : List Row) (q : List Str × List Str) : Prop := (∃ z, q.1 = [z] ∧ q.2 = [z]) ∨ ∃ x y a b, q.1 = x :: a ∧ q.2 = y :: b ∧ x ≠ y ∧ Mth.forest (wR rows) (x :: a) 1 = true ∧ Mth.forest (wR rows) (y :: b) 1 = true
theorem PairOk.pos {rows : List Row} {q : List Str × List Str} (h : PairOk rows q) : 0 < q.1.length ∧ 0 < q.2.length := by
  rcases h with ⟨z, a, b⟩ | ⟨x, y, a, b, e1, e2, _⟩
  · rw [a, b]; exact ⟨Nat.one_pos, Nat.one_pos⟩
  · rw [e1, e2]; exact ⟨Nat.succ_pos _, Nat.succ_pos _⟩
def PrsAt (H : Hp) (D : Addr) (ps : List (List Str × List Str)) : Prop := ∃ ts : List Addr, H D = some (.lst (ts.map V.ref)) ∧ ts.length = ps.length ∧ ∀ (i : Nat) (t : Addr) (q : List Str × List Str), ts[i]? = some t → ps[i]? = some q → ∃ a b, Tq H t [.ref a, .ref b] ∧ Tq H a (sV q.1) ∧ Tq H b (sV q.2)
section
variable {P : Program} {w : World} {K : PySem.W.Frag} {mg : Str → Option Value} {base : Heap} {C : Addr} {A : XA}
end
end Sh
end
section
set_option linter.all false
set_option autoImplicit false
namespace Mth
variable {α : Type} (w : α → Nat)
def pu (l : List α) (p : Nat) (o : List α) : List α := l.take p ++ o ++ l.drop (nxs w l p 1)
end Mth
end
section
set_option Elab.async false
set_option linter.all false
set_option maxRecDepth 100000
set_option maxHeartbeats 2000000
set_option autoImplicit false
namespace Sh
open PySem PySem.Spec PyProof.Rows L2
open C8 (pss_cut tCut)
open Evl (ixN_nat)
/-- the two differ and neither is a hole -/
def clash (q : List Str × List Str) : Prop := q.1 ≠ q.2 ∧ ¬ (q.1.head? = some ("*" : Str) ∨ q.2.head? = some ("*" : Str))
instance (q : List Str × List Str) : Decidable (clash q) := inferInstanceAs (Decidable (_ ∧ _))
theorem PairOk.other {rows : List Row} {q : List Str × List Str} (h : PairOk rows q) (n : q.1 ≠ q.2) : Mth.forest (wR rows) q.1 1 = true ∧ Mth.forest (wR rows) q.2 1 = true := by
  rcases h with ⟨z, a, b⟩ | ⟨x, y, a, b, e1, e2, _, f1, f2⟩
  · exact absurd (a.trans b.symm) n
  · rw [e1, e2]
    exact ⟨f1, f2⟩
section
variable {P : Program} {w : World} {K : PySem.W.Frag} {mg : Str → Option Value} {base : Heap} {C : Addr} {A : XA}
end
end Sh
end
section
set_option Elab.async false
set_option linter.all false
set_option maxRecDepth 100000
set_option maxHeartbeats 2000000
set_option autoImplicit false
namespace Sh
open PySem PySem.Spec PyProof.Rows L2
open C8 (pss_cut tCut)
open Evl (ixN_nat)
def clashes (ps : List (List Str × List Str)) : Prop := ∃ q ∈ ps, clash q
instance (ps : List (List Str × List Str)) : Decidable (clashes ps) := inferInstanceAs (Decidable (∃ q, q ∈ ps ∧ clash q))
theorem PrsAt.at {H : Hp} {D : Addr} {ps : List (List Str × List Str)} (h : PrsAt H D ps) : ∃ ts : List Addr, H D = some (.lst (ts.map V.ref)) ∧ (ts.map V.ref).length = ps.length ∧ ∀ (i : Nat) (hi : i < ps.length), ∃ t a b, (ts.map V.ref)[i]? = some (.ref t) ∧ Tq H t [.ref a, .ref b] ∧ Tq H a (sV ps[i].1) ∧ Tq H b (sV ps[i].2) := by
  obtain ⟨ts, t1, t2, t3⟩ := h
  refine ⟨ts, t1, by rw [List.length_map, t2], fun i hi => ?_⟩
  have ht : i < ts.length := by omega
  obtain ⟨a, b, y1, y2, y3⟩ := t3 i ts[i] ps[i] (List.getElem?_eq_getElem ht) (List.getElem?_eq_getElem hi)
  exact ⟨ts[i], a, b, by rw [List.getElem?_map, List.getElem?_eq_getElem ht]; rfl, y1, y2, y3⟩
/-- the union of two stumps, read from left to right -/
inductive Un (w : Str → Nat) : List Str → List Str → Option (List Str) → Prop
  | nil (r : List Str) : Un w r [] (some [])
  | same (a : Str) (l m : List Str) (o : Option (List Str)) : Un w l m o → Un w (a :: l) (a :: m) (o.map fun u => [a] ++ u)
  | right (t l m : List Str) (o : Option (List Str)) : Mth.forest w t 1 = true → t.head? ≠ some "*" → Un w l m o → Un w (t ++ l) ("*" :: m) (o.map fun u => t ++ u)
  | left (t l m : List Str) (o : Option (List Str)) : Mth.forest w t 1 = true → t.head? ≠ some "*" → Un w l m o → Un w ("*" :: l) (t ++ m) (o.map fun u => t ++ u)
  | clash (a b : Str) (l m : List Str) : a ≠ b → a ≠ "*" → b ≠ "*" → Un w (a :: l) (b :: m) none
theorem Un.le {w : Str → Nat} {l m : List Str} {o : Option (List Str)} (h : Un w l m o) : ∀ u, o = some u → u.length ≤ l.length + m.length := by
  induction h with
  | nil r => intro u e; cases e; exact Nat.zero_le _
  | same a l m o h ih =>
    intro u e
    cases o with
    | none => cases e
    | some v =>
      cases e
      have := ih v rfl
      simp only [List.length_append, List.length_cons, List.length_nil]
      omega
  | right t l m o ht h1 h ih =>
    intro u e
    cases o with
    | none => cases e
    | some v =>
      cases e
      have := ih v rfl
      simp only [List.length_append, List.length_cons]
      omega
  | left t l m o ht h1 h ih =>
    intro u e
    cases o with
    | none => cases e
    | some v =>
      cases e
      have := ih v rfl
      simp only [List.length_append, List.length_cons]
      omega
  | clash a b l m h1 h2 h3 => intro u e; cases e
section
variable {P : Program} {w : World} {K : PySem.W.Frag} {mg : Str → Option Value} {base : Heap} {C : Addr} {A : XA}
end
end Sh
end
section
set_option Elab.async false
set_option linter.all false
set_option maxRecDepth 100000
set_option maxHeartbeats 2000000
namespace Sh
open PySem PySem.Spec PyProof.Rows L2
theorem dpa_of {α : Type} {K : PySem.W.Frag} {H : Hp} {g : α → PyData} : ∀ {vs : List V} {xs : List α}, vs.length = xs.length → (∀ (i : Nat) (v : V) (x : α), vs[i]? = some v → xs[i]? = some x → Dp K H v (g x)) → DpAll K H vs (xs.map g)
  | [], [], _, _ => .nil
  | v :: vs, x :: xs, hl, h => .cons (h 0 v x rfl rfl) (dpa_of (by simpa using hl) fun i w y a b => h (i + 1) w y a b)
  | [], _ :: _, hl, _ => by simp at hl
  | _ :: _, [], hl, _ => by simp at hl
theorem shp_of {ds : List PyData} (h : ∀ d ∈ ds, d.canLay0 = true ∧ d.depth ≤ 63) : SeqAt.shaped (.list ds) = true := by
  have a : PyData.canLayAll0 ds = true ∧ PyData.depthAll ds ≤ 63 := by
    induction ds with
    | nil => exact ⟨rfl, by decide⟩
    | cons d r ih =>
      obtain ⟨q1, q2⟩ := h d List.mem_cons_self
      obtain ⟨i1, i2⟩ := ih fun x hx => h x (List.mem_cons_of_mem _ hx)
      refine ⟨by simp [PyData.canLayAll0, q1, i1], ?_⟩
      show max (PyData.depth d) (PyData.depthAll r) ≤ 63
      exact Nat.max_le.mpr ⟨q2, i2⟩
  have q : PyData.canLay0 (.list ds) = true := by rw [PyData.canLay0]; exact a.1
  have r : PyData.depth (.list ds) ≤ 64 := by rw [PyData.depth]; omega
  unfold SeqAt.shaped
  rw [q, decide_eq_true r]
  rfl
def rowD (q : Row) : PyData := .tuple [.str q.1, .int q.2]
theorem shp_rows {rows : List Row} (h : ∀ q ∈ rows, PyData.strOk q.1 = true) : SeqAt.shaped (.list (rows.map rowD)) = true := shp_of fun d hd => by
  obtain ⟨q, hq, rfl⟩ := List.mem_map.mp hd
  simp [rowD, h q hq, PyData.canLay0, PyData.canLayAll0, PyData.depth, PyData.depthAll]
def bgM (c : Addr) (z1 z2 z3 : Int) : List V := [.ref c, .int z1, .int z2, .int z3]
def BagM (H : Hp) (a c : Addr) : Prop := c ≠ a ∧ ∃ z1 z2 z3, ∃ cs : List Int, H a = some (.lst (bgM c z1 z2 z3)) ∧ H c = some (.lst (cs.map V.int)) ∧ cs.length ≤ 63
theorem BagM.lsts {H : Hp} {a c : Addr} (h : BagM H a c) : (∃ ys, H a = some (.lst ys)) ∧ ∃ ys, H c = some (.lst ys) := by
  obtain ⟨n, z1, z2, z3, cs, h1, h2, _⟩ := h
  exact ⟨⟨_, h1⟩, _, h2⟩
theorem BagM.same {H H' : Hp} {a c : Addr} (h : BagM H a c) (s : Same H H') : BagM H' a c := by
  obtain ⟨n, z1, z2, z3, cs, h1, h2, l⟩ := h
  exact ⟨n, z1, z2, z3, cs, s _ _ h1, s _ _ h2, l⟩
theorem BagM.ne {a b c : Addr} {H : Hp} (hb : BagM H a c) (h : H b = none) : b ≠ a ∧ b ≠ c := by
  obtain ⟨⟨y, h1⟩, z, h2⟩ := hb.lsts
  subst_vars
  refine ⟨fun e => ?_, fun e => ?_⟩
  · rw [e, h1] at h
    cases h
  · rw [e, h2] at h
    cases h
theorem BagM.upd_ne {a p c : Addr} {H : Hp} {o : HO} (h : BagM H a c) (n : p ≠ a ∧ p ≠ c) : BagM (upd H p o) a c := by
  obtain ⟨nn, z1, z2, z3, cs, h1, h2, l⟩ := h
  exact ⟨nn, z1, z2, z3, cs, by rw [L2.upd_ne (Ne.symm n.1)]; exact h1, by rw [L2.upd_ne (Ne.symm n.2)]; exact h2, l⟩
theorem BagM.new {H : Hp} {a c p : Addr} {o : HO} (h : BagM H a c) (hp : H p = none) : BagM (upd H p o) a c := h.upd_ne (h.ne hp)
end Sh
end
section
set_option Elab.async false
set_option linter.all false
set_option maxRecDepth 100000
set_option maxHeartbeats 2000000
namespace Sh
open PySem PySem.Spec PyProof.Rows L2
open TL (tl joinL tl_join join_eq tl_append)
open C8 (pss_cut tCut)
open Evl (ixN_nat)
theorem app_sg (x : Str) (c : Nat) : (x ++ sg c).cps.toList = x.cps.toList ++ [c] := tl_append x (sg c)
theorem app_tl (x y : Str) : (x ++ y).cps.toList = x.cps.toList ++ y.cps.toList := tl_append x y
theorem size_tl (x : Str) : x.cps.size = x.cps.toList.length := (Array.length_toList).symm
theorem cutS_to (z : Str) {j : Nat} (h : j ≤ z.cps.size) : (cutS z none (some (j : Int))).cps.toList = z.cps.toList.take j := by
  have h1 : HT.sIx z.length 0 none = 0 := rfl
  have h2 : HT.sIx z.length z.length (some (j : Int)) = j := by
    rw [HT.sIx_nat, str_len]
    omega
  unfold cutS
  rw [h1, h2]
  simp
/-- a word with another letter at a place -/
def sw (z : Str) (j c : Nat) : Str := cutS z none (some (j : Int)) ++ sg c ++ cutS z (some ((j : Int) + 1)) none
def five : List Str := ["q", "w", "e", "r", "t"]
section
variable {P : Program} {w : World} {K : PySem.W.Frag} {mg : Str → Option Value} {base : Heap}
end
end Sh
end
section
set_option Elab.async false
set_option linter.all false
set_option maxRecDepth 100000
set_option maxHeartbeats 2000000
namespace Sh
open PySem PySem.Spec PyProof.Rows L2
open C8 (pss_cut tCut)
open Evl (ixN_nat)
def spArity : Sp := fun vs H Q _ => ∃ (r : Addr) (rows : List Row), vs = [.ref r] ∧ RowsAt H r rows ∧ ROk 4 rows ∧ ∀ (H' : Hp) (d : Addr), Same H H' → H d = none → H' d = some (.dK (wL rows)) → Q (.ref d) H'
theorem ROk.up {rows : List Row} (R : ROk 4 rows) : ROk 8 rows := ⟨R.pos, by have := R.len; omega, R.nd, R.nm, R.wd, R.leaf⟩
section
variable {P : Program} {w : World} {K : PySem.W.Frag} {mg : Str → Option Value} {base : Heap} {C : Addr}
end
end Sh
end
section
set_option Elab.async false
set_option linter.all false
set_option maxRecDepth 100000
set_option maxHeartbeats 4000000
namespace Sh
open PySem PySem.Spec PyProof.Rows L2
open C8 (pss_cut tCut)
open Evl (ixN_nat)
/-- a box: two numbers -/
def BxAt (H : Hp) (x : Addr) : Prop := ∃ a b : Int, H x = some (.lst [.int a, .int b])
theorem BxAt.same {H H' : Hp} {x : Addr} (h : BxAt H x) (s : Same H H') : BxAt H' x := by
  obtain ⟨a, b, h⟩ := h
  exact ⟨a, b, s _ _ h⟩
theorem BxAt.ne {H : Hp} {x p : Addr} (h : BxAt H x) (hp : H p = none) : p ≠ x := fun e => by
  obtain ⟨a, b, h⟩ := h
  rw [e, h] at hp
  cases hp
theorem BxAt.upd_ne {H : Hp} {x p : Addr} {o : HO} (h : BxAt H x) (n : p ≠ x) : BxAt (upd H p o) x := by
  obtain ⟨a, b, h⟩ := h
  exact ⟨a, b, by rw [L2.upd_ne (Ne.symm n)]; exact h⟩
def spPick51 : Sp := fun vs H Q _ => ∃ (x : Addr) (m : Int), vs = [.ref x, .int m] ∧ BxAt H x ∧ 0 < m ∧ m < 1000000000 ∧ ∀ (H' : Hp) (e : Int), Kp x H H' → BxAt H' x → 0 ≤ e → e < m → Q (.int e) H'
def spCell51 (K : PySem.W.Frag) : Sp := fun vs H Q _ => ∃ (s : Addr) (ns : List Int) (k : Nat), vs = [.ref s, .int (k : Nat)] ∧ SqL K H s (ns.map V.int) ∧ (∀ H', Same H H' → SqL K H' s (ns.map V.int)) ∧ ns.length ≤ 63 ∧ k < 5 ∧ ∀ (H' : Hp) (e : Int), Same H H' → Q (.int e) H'
def spBox51 (K : PySem.W.Frag) : Sp := fun vs H Q _ => ∃ (s : Addr) (ns : List Int) (k : Nat), vs = [.ref s, .int (k : Nat)] ∧ SqL K H s (ns.map V.int) ∧ (∀ H', Same H H' → SqL K H' s (ns.map V.int)) ∧ ns.length ≤ 63 ∧ k < 5 ∧ ∀ (H' : Hp) (x : Addr), Same H H' → H x = none → BxAt H' x → Q (.ref x) H'
def spNum51 : Sp := fun vs H Q _ => ∃ (x : Addr), vs = [.ref x] ∧ BxAt H x ∧ ∀ (H' : Hp) (e : Int), Kp x H H' → BxAt H' x → 0 ≤ e → e ≤ 1000 → Q (.int e) H'
abbrev N_law_cell : List Str := ["script", "k"]
theorem sc_law_cell : FnScope N_law_cell ["script", "k"] (defScope s_law_cell) := ⟨rfl, rfl, rfl, by decide +kernel, rfl, by decide +kernel, by decide +kernel⟩
abbrev N_law_box : List Str := ["script", "k", "cell", "seed"]
theorem sc_law_box : FnScope N_law_box ["script", "k"] (defScope s_law_box) := ⟨rfl, rfl, rfl, by decide +kernel, rfl, by decide +kernel, by decide +kernel⟩
abbrev N_law_pick : List Str := ["box", "many", "digit"]
theorem sc_law_pick : FnScope N_law_pick ["box", "many"] (defScope s_law_pick) := ⟨rfl, rfl, rfl, by decide +kernel, rfl, by decide +kernel, by decide +kernel⟩
abbrev N_law_number : List Str := ["box", "way"]
theorem sc_law_number : FnScope N_law_number ["box"] (defScope s_law_number) := ⟨rfl, rfl, rfl, by decide +kernel, rfl, by decide +kernel, by decide +kernel⟩
section
variable {P : Program} {w : World} {K : PySem.W.Frag} {mg : Str → Option Value} {base : Heap}
theorem ok_pick51 (T : Bl mg) (D : Def0 K mg "_law_pick" s_law_pick) : DefOk P w K mg base CX0 1 "_law_pick" spPick51 := by
  refine D.ok sc_law_pick (fun vs H Q E h => ?_) (fun _ _ _ _ _ _ us hl => match us, hl with | [_, _], _ => rfl) (fun f cdv A outer s H vs Q E hr h => ?_)
  · obtain ⟨x, m, rfl, _⟩ := h
    rfl
  · obtain ⟨x, m, rfl, ⟨a, b, hx⟩, m0, m1, k⟩ := h
    refine ⟨_, (pss_cons (ps_if (pt_cmpR op_gt (pe_ix ix_list (pv 0) pe_int (fun _ _ => rfl)) pe_int (nomark _))
        (pss_cons (ps_set (i := 2) sc_law_pick.nd rfl (Or.inl rfl) (pe_op op_mod (pe_callTy call_int1 (by rfl) T.b_int (by decide +kernel) (pa_cons (pe_ix ix_list (pv 0) pe_int (fun _ _ => rfl)) pa_nil)) (pv 1)))
        (pss_cons (ps_asg (pe_op op_fdiv (pe_ix ix_list (pv 0) pe_int (fun _ _ => rfl)) (pv 1)) (pg_sub (pv 0) pe_int set_list))
        (pss_one (ps_ret (pv 2)))))
        pss_nil)
      (pss_cons (ps_asg (pe_op op_mod (pe_callTy call_int1 (by rfl) T.b_int (by decide +kernel) (pa_cons (pe_op op_add (pe_op op_mul (pe_ix ix_list (pv 0) pe_int (fun _ _ => rfl)) pe_int) pe_int) pa_nil)) pe_int) (pg_sub (pv 0) pe_int set_list))
      (pss_one (ps_ret (pe_op op_mod (pe_op op_mod (pe_callTy call_int1 (by rfl) T.b_int (by decide +kernel) (pa_cons (pe_op op_add (pe_op op_mul (pe_callTy call_int1 (by rfl) T.b_int (by decide +kernel) (pa_cons (pe_op op_fdiv (pe_ix ix_list (pv 0) pe_int (fun _ _ => rfl)) pe_int) pa_nil)) pe_int) pe_int) pa_nil)) pe_int) (pv 1)))))), ?_⟩
    refine ⟨_, rfl, x, _, _, _, rfl, rfl, SqL.of hx, atI_nat (j := 0) rfl, _, _, rfl, rfl, _, rfl, ite2 (fun _ => ?_) (fun _ => ?_)⟩
    · refine ⟨_, rfl, x, _, _, _, rfl, rfl, SqL.of hx, atI_nat (j := 0) rfl, .inl ⟨_, rfl, ?_⟩⟩
      refine ⟨_, rfl, _, _, rfl, rfl, by omega, ?_⟩
      refine ⟨_, rfl, x, _, _, _, rfl, rfl, SqL.of hx, atI_nat (j := 0) rfl, _, rfl, _, _, rfl, rfl, ⟨by omega, by omega⟩, _, rfl, x, _, _, 0, rfl, rfl, hx, ixN_nat (by show 0 < 2; decide), ?_⟩
      refine ⟨_, rfl, ?_⟩
      exact k _ _ (Kp.refl x H).upd ⟨_, _, upd_same⟩ (Int.emod_nonneg _ (by omega)) (Int.emod_lt_of_pos _ m0)
    · refine ⟨_, rfl, x, _, _, _, rfl, rfl, SqL.of hx, atI_nat (j := 1) rfl, _, _, rfl, rfl, .inr ⟨by decide, by decide⟩, _, _, rfl, rfl, .inl ⟨_, rfl, ?_⟩⟩
      refine ⟨_, _, rfl, rfl, by show (0 : Int) < 2147483647; decide, _, rfl, x, _, _, 1, rfl, rfl, hx, ixN_nat (by show 1 < 2; decide), ?_⟩
      have kp : Kp x H (upd H x (.lst ([V.int a, V.int b].set 1 (.int ((b * 48271 + 69621) % 2147483647))))) := (Kp.refl x H).upd
      have h1 : (upd H x (.lst ([V.int a, V.int b].set 1 (.int ((b * 48271 + 69621) % 2147483647))))) x = some (.lst [.int a, .int ((b * 48271 + 69621) % 2147483647)]) := upd_same
      show _
      generalize upd H x (.lst ([V.int a, V.int b].set 1 (.int ((b * 48271 + 69621) % 2147483647)))) = H1 at kp h1
      refine ⟨_, rfl, x, _, _, _, rfl, rfl, SqL.of h1, atI_nat (j := 1) rfl, _, _, rfl, rfl, ⟨by decide, by decide⟩, .inl ⟨_, rfl, ?_⟩⟩
      refine ⟨_, _, rfl, rfl, .inr ⟨by decide, by decide⟩, _, _, rfl, rfl, .inl ⟨_, rfl, ?_⟩⟩
      refine ⟨_, _, rfl, rfl, by show (0 : Int) < 999983; decide, _, rfl, _, _, rfl, rfl, by omega, ?_⟩
      exact k _ _ kp ⟨_, _, h1⟩ (Int.emod_nonneg _ (by omega)) (Int.emod_lt_of_pos _ m0)
theorem ok_cell51 (T : Bl mg) (D : Def0 K mg "_law_cell" s_law_cell) : DefOk P w K mg base CX0 1 "_law_cell" (spCell51 K) := by
  refine D.ok sc_law_cell (fun vs H Q E h => ?_) (fun _ _ _ _ _ _ us hl => match us, hl with | [_, _], _ => rfl) (fun f cdv A outer s' H vs Q E hr h => ?_)
  · obtain ⟨s, ns, k, rfl, _⟩ := h
    rfl
  · obtain ⟨s, ns, k, rfl, hs, hS, hl, k3, key⟩ := h
    have ls : (ns.map V.int).length = ns.length := List.length_map ..
    refine ⟨_, (pss_cons (ps_if (pt_cmpR op_lt (pv 1) (pe_callB call_len_seq (by rfl) T.b_len boot_len (pa_cons (pv 0) pa_nil)) (nomark _))
        (pss_one (ps_ret (pe_ix ix_list (pv 0) (pv 1) (fun _ _ => rfl))))
        pss_nil)
      (pss_cons (ps_if (pt_cmpR op_eq (pe_callB call_len_seq (by rfl) T.b_len boot_len (pa_cons (pv 0) pa_nil)) pe_int (nomark _))
        (pss_one (ps_ret (pe_op op_add (pe_op op_pow pe_int pe_int) (pe_ix ix_list (pe_lst (pa_cons pe_int (pa_cons pe_int (pa_cons pe_int (pa_cons pe_int (pa_cons pe_int pa_nil)))))) (pv 1) (fun _ _ => rfl)))))
        pss_nil)
      (pss_one (ps_ret (pe_op op_add (pe_op op_mul pe_int (pe_op op_add (pv 1) pe_int)) (pe_op op_mul pe_int (pe_op op_mod (pe_callTy call_int1 (by rfl) T.b_int (by decide +kernel) (pa_cons (pe_ix ix_list (pv 0) pe_int (fun _ _ => rfl)) pa_nil)) pe_int))))))), ?_⟩
    refine ⟨_, rfl, _, rfl, s, _, rfl, .inl hs, _, _, rfl, rfl, _, rfl, ?_⟩
    rw [ls]
    by_cases c : k < ns.length
    · refine ifp (decide_eq_true (by omega)) ?_
      refine ⟨_, rfl, _, rfl, s, _, _, _, rfl, rfl, hs, at_ofG (j := k) rfl (by rw [List.getElem?_map, List.getElem?_eq_getElem c]; rfl), ?_⟩
      exact key H _ (Same.refl H)
    refine ifn (fun h => c (by have := of_decide_eq_true h; omega)) ?_
    refine ⟨_, rfl, s, _, rfl, .inl hs, rfl, _, rfl, ?_⟩
    rw [ls]
    by_cases c0 : ns.length = 0
    · refine ifp (by simp [c0]) ?_
      refine ⟨_, _, rfl, rfl, ⟨by decide, by decide, by decide⟩, le_line (show 5 ≤ 10000000 by decide), fun l hl0 => ?_⟩
      have s1 := (Same.refl H).upd_new (o := .lst [V.int 111056706050, V.int 77857, V.int 235646, V.int 140375, V.int 179739]) hl0
      obtain ⟨z, hz⟩ : ∃ z : Int, ([V.int 111056706050, V.int 77857, V.int 235646, V.int 140375, V.int 179739] : List V)[k]? = some (.int z) := by
        rcases (show k = 0 ∨ k = 1 ∨ k = 2 ∨ k = 3 ∨ k = 4 by omega) with rfl | rfl | rfl | rfl | rfl
        · exact ⟨_, rfl⟩
        · exact ⟨_, rfl⟩
        · exact ⟨_, rfl⟩
        · exact ⟨_, rfl⟩
        · exact ⟨_, rfl⟩
      refine ⟨_, rfl, l, _, _, _, rfl, rfl, SqL.of upd_same, at_ofG (j := k) rfl hz, _, _, rfl, rfl, ?_⟩
      exact key _ _ s1
    · refine ifn (fun h => c0 (by
        have := of_decide_eq_true h
        injection this with this
        omega)) ?_
      have h0 : 0 < ns.length := by omega
      refine ⟨_, rfl, _, _, rfl, rfl, _, _, rfl, rfl, .inl ⟨by decide, by decide⟩, _, rfl, s, _, _, _, rfl, rfl, hs, at_ofG (j := 0) rfl (by rw [List.getElem?_map, List.getElem?_eq_getElem h0]; rfl), .inl ⟨_, rfl, ?_⟩⟩
      refine ⟨_, _, rfl, rfl, by show (0 : Int) < 1000003; decide, _, _, rfl, rfl, .inl ⟨by decide, by decide⟩, _, _, rfl, rfl, ?_⟩
      exact key H _ (Same.refl H)
theorem ok_box51 (T : Bl mg) (c_law_cell : DefOk P w K mg base CX0 1 "_law_cell" (spCell51 K)) (D : Def0 K mg "_law_box" s_law_box) : DefOk P w K mg base CX0 2 "_law_box" (spBox51 K) := by
  refine D.ok sc_law_box (fun vs H Q E h => ?_) (fun _ _ _ _ _ _ us hl => match us, hl with | [_, _], _ => rfl) (fun f cdv A outer s' H vs Q E hr h => ?_)
  · obtain ⟨s, ns, k, rfl, _⟩ := h
    rfl
  · obtain ⟨s, ns, k, rfl, hs, hS, hl, k3, key⟩ := h
    refine ⟨_, (pss_cons (ps_set (i := 2) sc_law_box.nd rfl (Or.inl rfl) (pe_d c_law_cell (hr.mono (by decide)) pass0 (pa_cons (pv 0) (pa_cons (pv 1) pa_nil))))
      (pss_cons (ps_set (i := 3) sc_law_box.nd rfl (Or.inl rfl) (pe_op op_mod (pe_callTy call_int1 (by rfl) T.b_int (by decide +kernel) (pa_cons (pe_op op_add (pe_op op_mul (pe_callTy call_int1 (by rfl) T.b_int (by decide +kernel) (pa_cons (pv 2) pa_nil)) pe_int) (pe_op op_mul pe_int (pe_op op_add (pv 1) pe_int))) pa_nil)) pe_int))
      (pss_cons (ps_if (pt_cmpR op_ge (pv 2) (pe_op op_pow pe_int pe_int) (nomark _))
        (pss_one (ps_ret (pe_lst (pa_cons (pe_op op_sub (pv 2) (pe_op op_pow pe_int pe_int)) (pa_cons (pv 3) pa_nil)))))
        pss_nil)
      (pss_one (ps_ret (pe_lst (pa_cons pe_int (pa_cons (pv 3) pa_nil)))))))), ?_⟩
    refine ⟨_, rfl, _, rfl, s, ns, k, rfl, hs, hS, hl, k3, fun H1 e s1 => ?_⟩
    refine ⟨_, rfl, .inl ⟨_, rfl, ?_⟩⟩
    refine ⟨_, _, rfl, rfl, .inr ⟨by decide, by decide⟩, _, rfl, _, _, rfl, rfl, _, _, rfl, rfl, .inl ⟨by decide, by decide⟩, _, _, rfl, rfl, .inl ⟨_, rfl, ?_⟩⟩
    refine ⟨_, _, rfl, rfl, by show (0 : Int) < 2147483647; decide, ?_⟩
    refine ⟨_, rfl, _, _, rfl, rfl, ⟨by decide, by decide, by decide⟩, _, _, rfl, rfl, _, rfl, ite2 (fun _ => ?_) (fun _ => ?_)⟩
    · refine ⟨_, rfl, _, _, rfl, rfl, ⟨by decide, by decide, by decide⟩, _, _, rfl, rfl, _, rfl, le_line (show 2 ≤ 10000000 by decide), fun x hx => ?_⟩
      exact key _ x (s1.upd_new hx) (s1.free hx) ⟨_, _, upd_same⟩
    · refine ⟨_, rfl, le_line (show 2 ≤ 10000000 by decide), fun x hx => ?_⟩
      exact key _ x (s1.upd_new hx) (s1.free hx) ⟨_, _, upd_same⟩
theorem ok_num51 (T : Bl mg) (c_law_pick : DefOk P w K mg base CX0 1 "_law_pick" spPick51) (D : Def0 K mg "_law_number" s_law_number) : DefOk P w K mg base CX0 2 "_law_number" spNum51 := by
  refine D.ok sc_law_number (fun vs H Q E h => ?_) (fun _ _ _ _ _ _ us hl => match us, hl with | [_], _ => rfl) (fun f cdv A outer s' H vs Q E hr h => ?_)
  · obtain ⟨x, rfl, _⟩ := h
    rfl
  · obtain ⟨x, rfl, hx, k⟩ := h
    refine ⟨_, (pss_cons (ps_set (i := 1) sc_law_number.nd rfl (Or.inl rfl) (pe_d c_law_pick (hr.mono (by decide)) pass0 (pa_cons (pv 0) (pa_cons pe_int pa_nil))))
      (pss_cons (ps_if (pt_cmpR op_eq (pv 1) pe_int (nomark _))
        (pss_one (ps_ret (pe_d c_law_pick (hr.mono (by decide)) pass0 (pa_cons (pv 0) (pa_cons pe_int pa_nil)))))
        pss_nil)
      (pss_cons (ps_if (pt_cmpR op_eq (pv 1) pe_int (nomark _))
        (pss_one (ps_ret (pe_ix ix_list (pe_lst (pa_cons pe_int (pa_cons pe_int (pa_cons pe_int (pa_cons pe_int pa_nil))))) (pe_d c_law_pick (hr.mono (by decide)) pass0 (pa_cons (pv 0) (pa_cons pe_int pa_nil))) (fun _ _ => rfl))))
        pss_nil)
      (pss_one (ps_ret (pe_d c_law_pick (hr.mono (by decide)) pass0 (pa_cons (pv 0) (pa_cons pe_int pa_nil)))))))), ?_⟩
    refine ⟨_, rfl, x, 4, rfl, hx, by decide, by decide, fun H1 e1 k1 b1 e10 e11 => ?_⟩
    refine ⟨_, rfl, rfl, _, rfl, ite2 (fun _ => ?_) (fun _ => ?_)⟩
    · refine ⟨_, rfl, x, 1001, rfl, b1, by decide, by decide, fun H2 e2 k2 b2 e20 e21 => ?_⟩
      exact k H2 e2 (k1.trans k2) b2 e20 (by omega)
    · refine ⟨_, rfl, rfl, _, rfl, ite2 (fun _ => ?_) (fun _ => ?_)⟩
      · refine ⟨le_line (show 4 ≤ 10000000 by decide), fun l hl => ?_⟩
        have nl := b1.ne hl
        have s1 := (Same.refl H1).upd_new (o := .lst [V.int 0, V.int 1, V.int 999, V.int 1000]) hl
        have l1 : (upd H1 l (.lst [V.int 0, V.int 1, V.int 999, V.int 1000])) l = some (.lst [V.int 0, V.int 1, V.int 999, V.int 1000]) := upd_same
        generalize upd H1 l (.lst [V.int 0, V.int 1, V.int 999, V.int 1000]) = H2 at s1 l1
        refine ⟨_, rfl, x, 4, rfl, b1.same s1, by decide, by decide, fun H3 e3 k3 b3 e30 e31 => ?_⟩
        obtain ⟨z, hz, z0, z1⟩ : ∃ z : Int, ([V.int 0, V.int 1, V.int 999, V.int 1000] : List V)[e3.toNat]? = some (.int z) ∧ 0 ≤ z ∧ z ≤ 1000 := by
          have hj : e3.toNat < 4 := by omega
          rcases (show e3.toNat = 0 ∨ e3.toNat = 1 ∨ e3.toNat = 2 ∨ e3.toNat = 3 by omega) with h | h | h | h <;> rw [h]
          · exact ⟨_, rfl, by decide, by decide⟩
          · exact ⟨_, rfl, by decide, by decide⟩
          · exact ⟨_, rfl, by decide, by decide⟩
          · exact ⟨_, rfl, by decide, by decide⟩
        refine ⟨l, _, _, _, rfl, rfl, SqL.of (k3 _ _ l1 nl), at_ofG (j := e3.toNat) (by omega) hz, ?_⟩
        exact k H3 z ((k1.trans (Kp.same s1)).trans k3) b3 z0 z1
      · refine ⟨_, rfl, x, 6, rfl, b1, by decide, by decide, fun H2 e2 k2 b2 e20 e21 => ?_⟩
        exact k H2 e2 (k1.trans k2) b2 e20 (by omega)
end
end Sh
end
section
set_option Elab.async false
set_option linter.all false
set_option maxRecDepth 100000
set_option maxHeartbeats 4000000
namespace Sh
open PySem PySem.Spec PyProof.Rows L2
open TL (tl joinL tl_join join_eq tl_append)
open C8 (pss_cut tCut)
open Evl (ixN_nat)
def spLet51 : Sp := fun vs H Q _ => ∃ (x t : Addr) (ns : List Str), vs = [.ref x, .ref t] ∧ BxAt H x ∧ H t = some (.lst (ns.map V.str)) ∧ t ≠ x ∧ ns.length ≤ 3 ∧ ∀ (H' : Hp) (z : Str), Kp x H H' → BxAt H' x → IsNm z → z ∉ ns → Q (.str z) H'
/-- the word with its eighth letter, or one more, put in place -/
def cand (z : Str) (c : Nat) : Str := cutS z none (some 7) ++ sg c
theorem cut7 (z : Str) : (cutS z none (some 7)).cps.toList = z.cps.toList.take 7 := by
  by_cases h : 7 ≤ z.cps.size
  · exact cutS_to z (j := 7) h
  · have h1 : HT.sIx z.length 0 none = 0 := rfl
    have h2 : HT.sIx z.length z.length (some (7 : Int)) = z.cps.size := by
      have := HT.sIx_nat z.length z.length 7
      have e : ((7 : Nat) : Int) = (7 : Int) := rfl
      rw [← e, this, str_len]
      omega
    unfold cutS
    rw [h1, h2]
    have hl : z.cps.size = z.cps.toList.length := size_tl z
    simp
    omega
theorem cand_tl (z : Str) (c : Nat) : (cand z c).cps.toList = z.cps.toList.take 7 ++ [c] := by
  unfold cand
  rw [app_sg, cut7]
theorem cand_nm {z : Str} {c : Nat} (hz : IsNm z) (hc : 97 ≤ c ∧ c ≤ 122) : IsNm (cand z c) := by
  have e := cand_tl z c
  have el : (cand z c).cps.size = min 7 z.cps.size + 1 := by
    rw [size_tl, e, List.length_append, List.length_take, ← size_tl]
    rfl
  obtain ⟨z1, z2, z3⟩ := hz
  refine ⟨by omega, by omega, fun x hx => ?_⟩
  rw [e] at hx
  rcases List.mem_append.mp hx with q | q
  · exact z3 x (List.mem_of_mem_take q)
  · rw [List.mem_singleton.mp q]
    exact hc
theorem cand_inj {z : Str} {c d : Nat} (e : cand z c = cand z d) : c = d := by
  have q := congrArg (fun s : Str => s.cps.toList) e
  simp only [cand_tl] at q
  have := List.append_cancel_left q
  injection this
theorem cand_out {z : Str} {ns : List Str} (h : ns.length ≤ 3) : ¬ ∀ j, j < 26 → cand z (97 + j) ∈ ns := fun f => by
  obtain ⟨i0, h0, e0⟩ := List.mem_iff_getElem.mp (f 0 (by decide))
  obtain ⟨i1, h1, e1⟩ := List.mem_iff_getElem.mp (f 1 (by decide))
  obtain ⟨i2, h2, e2⟩ := List.mem_iff_getElem.mp (f 2 (by decide))
  obtain ⟨i3, h3, e3⟩ := List.mem_iff_getElem.mp (f 3 (by decide))
  have key : ∀ {i j : Nat} {hi : i < ns.length} {hj : j < ns.length} {c d : Nat}, ns[i] = cand z c → ns[j] = cand z d → i = j → c = d := fun {i j hi hj c d} a b e => by
    subst e
    exact cand_inj (a.symm.trans b)
  rcases (show i0 = i1 ∨ i0 = i2 ∨ i0 = i3 ∨ i1 = i2 ∨ i1 = i3 ∨ i2 = i3 by omega) with e | e | e | e | e | e
  · have := key e0 e1 e; omega
  · have := key e0 e2 e; omega
  · have := key e0 e3 e; omega
  · have := key e1 e2 e; omega
  · have := key e1 e3 e; omega
  · have := key e2 e3 e; omega
abbrev N_law_letters : List Str := ["box", "taken", "letters", "word", "turn", "letter"]
theorem sc_law_letters : FnScope N_law_letters ["box", "taken"] (defScope s_law_letters) := ⟨rfl, rfl, rfl, by decide +kernel, rfl, by decide +kernel, by decide +kernel⟩
section
variable {P : Program} {w : World} {K : PySem.W.Frag} {mg : Str → Option Value} {base : Heap}
theorem ok_let51 (T : Bl mg) (c_law_pick : DefOk P w K mg base CX0 1 "_law_pick" spPick51) (D : Def0 K mg "_law_letters" s_law_letters) : DefOk P w K mg base CX0 2 "_law_letters" spLet51 := by
  refine D.ok sc_law_letters (fun vs H Q E h => ?_) (fun _ _ _ _ _ _ us hl => match us, hl with | [_, _], _ => rfl) (fun f cdv A outer s' H vs Q E hr h => ?_)
  · obtain ⟨x, t, ns, rfl, _⟩ := h
    rfl
  · obtain ⟨x, t, ns, rfl, hx, ht, ntx, hl, k⟩ := h
    refine ⟨_, (pss_cons (ps_set (i := 2) sc_law_letters.nd rfl (Or.inl rfl) pe_str)
      (pss_cons (ps_set (i := 3) sc_law_letters.nd rfl (Or.inl rfl) pe_str)
      (pss_cons (ps_for PassesOwn.never rfl (pi_range1 (by rfl) T.b_range (pa_cons (pe_op op_add pe_int (pe_d c_law_pick (hr.mono (by decide)) pass0 (pa_cons (pv 0) (pa_cons pe_int pa_nil)))) pa_nil)) (pg_name (i := 4) sc_law_letters.nd rfl (Or.inl rfl))
        (pss_one (ps_set (i := 3) sc_law_letters.nd rfl (Or.inl rfl) (pe_op op_add_str (pv 3) (pe_ix ix_str (pv 2) (pe_d c_law_pick (hr.mono (by decide)) pass0 (pa_cons (pv 0) (pa_cons pe_int pa_nil))) (fun _ _ => rfl))))))
      (pss_cut (ps_if (pt_cmpR op_in_seq (pv 3) (pv 1) (by rfl))
        (pss_one (ps_for PassesOwn.never rfl (pi_str (pv 2)) (pg_name (i := 5) sc_law_letters.nd rfl (Or.inl rfl))
          (pss_one (ps_if (pt_cmpR op_notIn_seq (pe_op op_add_str (pe_slice sl_str (pv 3) po_none (po_some pe_int)) (pv 5)) (pv 1) (by rfl))
            (pss_one (ps_ret (pe_op op_add_str (pe_slice sl_str (pv 3) po_none (po_some pe_int)) (pv 5))))
            pss_nil))))
        pss_nil)
      (pss_one (ps_ret (pv 3))))))), ?_⟩
    refine ⟨_, rfl, x, 8, rfl, hx, by decide, by decide, fun H1 d k1 b1 d0 d8 => ?_⟩
    refine ⟨_, _, rfl, rfl, _, rfl, by omega, by omega, for_range (n := (1 + d).toNat) (fun i σ H' => ∃ (y u : Option V) (z : Str), σ = [some (.ref x), some (.ref t), some (.str "abcdefghijklmnopqrstuvwxyz"), some (.str z), y, u] ∧ Kp x H H' ∧ BxAt H' x ∧ z.cps.size = i ∧ ∀ c ∈ z.cps.toList, 97 ≤ c ∧ c ≤ 122)
      ⟨none, none, "", rfl, k1, b1, rfl, fun c hc => nomatch hc⟩ ?_ ?_⟩
    · rintro i σ H2 hi ⟨y, u, z, rfl, k2, b2, hz, hc⟩
      refine ⟨_, rfl, _, rfl, _, rfl, x, 26, rfl, b2, by decide, by decide, fun H3 e k3 b3 e0 e1 => ?_⟩
      refine ⟨_, _, 97 + e.toNat, rfl, rfl, (by rw [letters_len]; exact le_line (by decide)), at_ofG (z := e) (j := e.toNat) (by omega) (letters_at e.toNat (by omega)), _, _, rfl, rfl, ?_, ?_⟩
      · exact le_line (by rw [str_len, hz]; show i + 1 ≤ _; omega)
      · refine ⟨_, _, _, rfl, k2.trans k3, b3, ?_, fun y hy => ?_⟩
        · have q := app_sg z (97 + e.toNat)
          rw [size_tl]
          show (z ++ sg (97 + e.toNat)).cps.toList.length = _
          rw [q, List.length_append, ← size_tl, hz]
          rfl
        · have q := app_sg z (97 + e.toNat)
          have hy : y ∈ (z ++ sg (97 + e.toNat)).cps.toList := hy
          rw [q] at hy
          rcases List.mem_append.mp hy with u | u
          · exact hc y u
          · rw [List.mem_singleton.mp u]
            omega
    · rintro σ H2 ⟨y, u, z, rfl, k2, b2, hz, hc⟩
      have nz : IsNm z := ⟨by rw [hz]; omega, by rw [hz]; omega, hc⟩
      have ht2 := k2 _ _ ht ntx
      refine ⟨fun σ H' => ∃ (y u : Option V), σ = [some (.ref x), some (.ref t), some (.str "abcdefghijklmnopqrstuvwxyz"), some (.str z), y, u] ∧ H' = H2 ∧ z ∉ ns, ?_, ?_⟩
      · refine ⟨_, rfl, _, rfl, t, _, rfl, .inl (SqL.of ht2), rfl, flat_strs ns, _, rfl, ?_⟩
        rw [if_neg (by decide), inV_str]
        by_cases hin : z ∈ ns
        · refine ifp (decide_eq_true hin) ?_
          have cl : ∀ c : Nat, (cutS z none (some 7)).length + (sg c).length ≤ 10000000 := fun c => by
            have e1 := cut7 z
            have : (cutS z none (some 7)).cps.size ≤ 7 := by rw [size_tl, e1, List.length_take]; exact Nat.min_le_left ..
            rw [str_len, str_len]
            show _ + 1 ≤ _
            omega
          refine ⟨_, rfl, _, rfl, for_it (walk_str (z := "abcdefghijklmnopqrstuvwxyz")) (fun i σ H' => ∃ (y u : Option V), σ = [some (.ref x), some (.ref t), some (.str "abcdefghijklmnopqrstuvwxyz"), some (.str z), y, u] ∧ H' = H2 ∧ ∀ j, j < i → cand z (97 + j) ∈ ns) ⟨_, _, rfl, rfl, fun j hj => by omega⟩ (fun _ _ _ _ _ => trivial) ?_ ?_⟩
          · rintro i v σ H3' H3 hi ⟨y, u, rfl, rfl, all⟩ ⟨rfl, c, hc', rfl⟩
            have hi26 : i < 26 := by rw [← letters_len]; exact hi
            have ec : c = 97 + i := by
              have := letters_at i hi26
              rw [Array.getElem?_toList] at this
              rw [this] at hc'
              exact (Option.some.inj hc').symm
            subst ec
            refine ⟨_, rfl, _, rfl, _, rfl, nm_line nz, _, rfl, _, _, rfl, rfl, le_line (cl _), ?_⟩
            refine ⟨_, rfl, t, _, rfl, .inl (SqL.of ht2), rfl, flat_strs ns, _, rfl, ?_⟩
            rw [if_pos rfl, inV_str]
            by_cases hcn : cand z (97 + i) ∈ ns
            · refine ifn (by
                show ¬ (!decide (cand z (97 + i) ∈ ns)) = true
                rw [decide_eq_true hcn]
                decide) ?_
              refine ⟨_, _, rfl, rfl, fun j hj => ?_⟩
              by_cases e : j < i
              · exact all j e
              · have : j = i := by omega
                subst this
                exact hcn
            · refine ifp (by
                show (!decide (cand z (97 + i) ∈ ns)) = true
                rw [decide_eq_false hcn]
                rfl) ?_
              refine ⟨_, rfl, _, rfl, _, rfl, nm_line nz, _, rfl, _, _, rfl, rfl, le_line (cl _), ?_⟩
              exact k _ _ k2 b2 (cand_nm nz (by omega)) hcn
          · rintro σ H3 ⟨y, u, rfl, rfl, all⟩
            exact absurd (fun j hj => all j (by show j < ("abcdefghijklmnopqrstuvwxyz" : Str).length; rw [letters_len]; exact hj)) (cand_out hl)
        · exact ifn (fun h => hin (of_decide_eq_true h)) ⟨_, _, rfl, rfl, hin⟩
      · rintro σ H3 ⟨y, u, rfl, rfl, hin⟩
        exact ⟨_, rfl, k _ _ k2 b2 nz hin⟩
end
end Sh
end
section
set_option Elab.async false
set_option linter.all false
set_option maxRecDepth 100000
set_option maxHeartbeats 4000000
namespace Sh
open PySem PySem.Spec PyProof.Rows L2
open C8 (pss_cut tCut)
open Evl (ixN_nat)
def spKinds51 : Sp := fun vs H Q _ => ∃ (x : Addr), vs = [.ref x] ∧ BxAt H x ∧ ∀ (H' : Hp) (r : Addr) (rows : List Row), Kp x H H' → BxAt H' x → r ≠ x → H r = none → RowsAt H' r rows → ROk 4 rows → Q (.ref r) H'
abbrev N_law_kinds : List Str := ["box", "many", "lowest", "kinds", "place", "width", "pair"]
theorem sc_law_kinds : FnScope N_law_kinds ["box"] (defScope s_law_kinds) := ⟨rfl, rfl, rfl, by decide +kernel, rfl, by decide +kernel, by decide +kernel⟩
section
variable {P : Program} {w : World} {K : PySem.W.Frag} {mg : Str → Option Value} {base : Heap}
theorem ok_kinds51 (T : Bl mg) (c_law_pick : DefOk P w K mg base CX0 1 "_law_pick" spPick51) (c_law_letters : DefOk P w K mg base CX0 2 "_law_letters" spLet51) (D : Def0 K mg "_law_kinds" s_law_kinds) : DefOk P w K mg base CX0 3 "_law_kinds" spKinds51 := by
  refine D.ok sc_law_kinds (fun vs H Q E h => ?_) (fun _ _ _ _ _ _ us hl => match us, hl with | [_], _ => rfl) (fun f cdv A outer s' H vs Q E hr h => ?_)
  · obtain ⟨x, rfl, _⟩ := h
    rfl
  · obtain ⟨x, rfl, hx, key⟩ := h
    refine ⟨_, (pss_cons (ps_set (i := 1) sc_law_kinds.nd rfl (Or.inl rfl) (pe_ix ix_list (pe_lst (pa_cons pe_int (pa_cons pe_int (pa_cons pe_int (pa_cons pe_int (pa_cons pe_int (pa_cons pe_int (pa_cons pe_int (pa_cons pe_int pa_nil))))))))) (pe_d c_law_pick (hr.mono (by decide)) pass0 (pa_cons (pv 0) (pa_cons pe_int pa_nil))) (fun _ _ => rfl)))
      (pss_cons (ps_set (i := 2) sc_law_kinds.nd rfl (Or.inl rfl) (pe_d c_law_pick (hr.mono (by decide)) pass0 (pa_cons (pv 0) (pa_cons (pv 1) pa_nil))))
      (pss_cons (ps_set (i := 3) sc_law_kinds.nd rfl (Or.inl rfl) (pe_lst pa_nil))
      (pss_cons (ps_for PassesOwn.never rfl (pi_range1 (by rfl) T.b_range (pa_cons (pv 1) pa_nil)) (pg_name (i := 4) sc_law_kinds.nd rfl (Or.inl rfl))
        (pss_cons (ps_set (i := 5) sc_law_kinds.nd rfl (Or.inl rfl) (pe_ix ix_list (pe_lst (pa_cons pe_int (pa_cons pe_int (pa_cons pe_int (pa_cons pe_int (pa_cons pe_int (pa_cons pe_int (pa_cons pe_int (pa_cons pe_int pa_nil))))))))) (pe_d c_law_pick (hr.mono (by decide)) pass0 (pa_cons (pv 0) (pa_cons pe_int pa_nil))) (fun _ _ => rfl)))
        (pss_cut (ps_if (pt_cmpR op_eq (pv 4) (pv 2) (nomark _))
          (pss_one (ps_set (i := 5) sc_law_kinds.nd rfl (Or.inl rfl) pe_int))
          pss_nil)
        (pss_cut (ps_if (PW.pt (pw_and (pt_cmpR op_eq (pv 5) pe_int (nomark _)) (pw_and1 (pt_cmpR op_in_seq pe_int (pe_lc (own := [("pair", 6)]) (g := (gName 6)) (tt := tYes) rfl sc_law_kinds.nd (pi_list (pv 3)) (blkOk_by (N := N_law_kinds) (sc := defScope s_law_kinds) (by decide +kernel)) (fun _ _ _ _ _ => (pg_name (i := 6) sc_law_kinds.nd rfl (Or.inl rfl))) (fun _ _ _ _ _ => pts_nil) (fun _ _ _ _ _ => (pe_ix (show IxR _ (rIxT K) from ix_tup) (pv 6) pe_int (fun _ _ => rfl)))) (by rfl)))))
          (pss_one (ps_set (i := 5) sc_law_kinds.nd rfl (Or.inl rfl) pe_int))
          pss_nil)
        (pss_one (ps_expr (pe_bm PySem.F.plainAttrs_list PySem.F.slot_list_append PySem.F.type_list_append mt_append (pv 3) (pa_cons (pe_tup (pa_cons (pe_d c_law_letters (hr.mono (by decide)) pass0 (pa_cons (pv 0) (pa_cons (pe_lc (own := [("pair", 6)]) (g := (gName 6)) (tt := tYes) rfl sc_law_kinds.nd (pi_list (pv 3)) (blkOk_by (N := N_law_kinds) (sc := defScope s_law_kinds) (by decide +kernel)) (fun _ _ _ _ _ => (pg_name (i := 6) sc_law_kinds.nd rfl (Or.inl rfl))) (fun _ _ _ _ _ => pts_nil) (fun _ _ _ _ _ => (pe_ix (show IxR _ (rIxT K) from ix_tup) (pv 6) pe_int (fun _ _ => rfl)))) pa_nil))) (pa_cons (pv 5) pa_nil))) pa_nil))))))))
      (pss_one (ps_ret (pv 3))))))), ?_⟩
    refine ⟨le_line (show 8 ≤ 10000000 by decide), fun l1 hl1 => ?_⟩
    have n1 := hx.ne hl1
    have s1 := (Same.refl H).upd_new (o := .lst [V.int 2, V.int 2, V.int 3, V.int 3, V.int 3, V.int 4, V.int 2, V.int 1]) hl1
    have e1 : (upd H l1 (.lst [V.int 2, V.int 2, V.int 3, V.int 3, V.int 3, V.int 4, V.int 2, V.int 1])) l1 = some (.lst [V.int 2, V.int 2, V.int 3, V.int 3, V.int 3, V.int 4, V.int 2, V.int 1]) := upd_same
    generalize upd H l1 (.lst [V.int 2, V.int 2, V.int 3, V.int 3, V.int 3, V.int 4, V.int 2, V.int 1]) = H1 at s1 e1
    refine ⟨_, rfl, x, 8, rfl, hx.same s1, by decide, by decide, fun H2 d k2 b2 d0 d8 => ?_⟩
    obtain ⟨m, hm, m1, m4⟩ : ∃ m : Nat, ([V.int 2, V.int 2, V.int 3, V.int 3, V.int 3, V.int 4, V.int 2, V.int 1] : List V)[d.toNat]? = some (.int (m : Nat)) ∧ 1 ≤ m ∧ m ≤ 4 := by
      have hj : d.toNat < 8 := by omega
      rcases (show d.toNat = 0 ∨ d.toNat = 1 ∨ d.toNat = 2 ∨ d.toNat = 3 ∨ d.toNat = 4 ∨ d.toNat = 5 ∨ d.toNat = 6 ∨ d.toNat = 7 by omega) with h | h | h | h | h | h | h | h <;> rw [h]
      · exact ⟨2, rfl, by decide, by decide⟩
      · exact ⟨2, rfl, by decide, by decide⟩
      · exact ⟨3, rfl, by decide, by decide⟩
      · exact ⟨3, rfl, by decide, by decide⟩
      · exact ⟨3, rfl, by decide, by decide⟩
      · exact ⟨4, rfl, by decide, by decide⟩
      · exact ⟨2, rfl, by decide, by decide⟩
      · exact ⟨1, rfl, by decide, by decide⟩
    refine ⟨l1, _, _, _, rfl, rfl, SqL.of (k2 _ _ e1 n1), at_ofG (j := d.toNat) (by omega) hm, ?_⟩
    refine ⟨_, rfl, _, rfl, x, (m : Int), rfl, b2, by omega, by omega, fun H3 lo k3 b3 lo0 lo1 => ?_⟩
    have k03 := (Kp.same s1).trans (k2.trans k3)
    refine ⟨le_line (show 0 ≤ 10000000 by decide), fun r hr0 => ?_⟩
    have nr := b3.ne hr0
    have s34 := (Same.refl H3).upd_new (o := .lst []) hr0
    have r4 : (upd H3 r (.lst [])) r = some (.lst (([] : List Addr).map V.ref)) := upd_same
    have b4 := b3.same s34
    have k04 := k03.trans (Kp.same s34)
    have hrH : H r = none := by
      cases e : H r with
      | none => rfl
      | some o =>
        rw [k03 _ _ e nr] at hr0
        cases hr0
    generalize upd H3 r (.lst []) = H4 at s34 r4 b4 k04
    refine ⟨_, rfl, _, rfl, by omega, by omega, ?_⟩
    rw [Int.toNat_natCast]
    refine for_range (n := m) (fun i σ H' => ∃ (x4 x5 x6 : Option V) (ts : List Addr) (rows : List Row), σ = [some (.ref x), some (.int (m : Nat)), some (.int lo), some (.ref r), x4, x5, x6] ∧ Kp x H H' ∧ BxAt H' x ∧ H' r = some (.lst (ts.map V.ref)) ∧ TupsAt H' ts rows ∧ rows.length = i ∧ (rows.map (·.1)).Nodup ∧ (∀ q ∈ rows, IsNm q.1) ∧ (∀ q ∈ rows, 0 ≤ q.2 ∧ q.2 ≤ 3) ∧ (lo < (i : Nat) → ∃ q ∈ rows, q.2 = 0))
      ⟨none, none, none, [], [], rfl, k04, b4, r4, ⟨rfl, fun i u p a => by simp at a⟩, rfl, List.nodup_nil, (fun q h => nomatch h), (fun q h => nomatch h), fun h => by omega⟩ ?_ ?_
    · rintro i σ H5 hi ⟨x4, x5, x6, ts, rows, rfl, k5, b5, r5, t5, lr, nd, nm, wd, lf⟩
      refine ⟨le_line (show 8 ≤ 10000000 by decide), fun l2 hl2 => ?_⟩
      have n2 := b5.ne hl2
      have s56 := (Same.refl H5).upd_new (o := .lst [V.int 0, V.int 1, V.int 1, V.int 2, V.int 2, V.int 2, V.int 3, V.int 0]) hl2
      have e6 : (upd H5 l2 (.lst [V.int 0, V.int 1, V.int 1, V.int 2, V.int 2, V.int 2, V.int 3, V.int 0])) l2 = some (.lst [V.int 0, V.int 1, V.int 1, V.int 2, V.int 2, V.int 2, V.int 3, V.int 0]) := upd_same
      generalize upd H5 l2 (.lst [V.int 0, V.int 1, V.int 1, V.int 2, V.int 2, V.int 2, V.int 3, V.int 0]) = H6 at s56 e6
      have b6 := b5.same s56
      refine ⟨_, rfl, x, 8, rfl, b6, by decide, by decide, fun H7 d7 k7 b7 d70 d78 => ?_⟩
      obtain ⟨wi, hwi, w0, w3⟩ : ∃ z : Int, ([V.int 0, V.int 1, V.int 1, V.int 2, V.int 2, V.int 2, V.int 3, V.int 0] : List V)[d7.toNat]? = some (.int z) ∧ 0 ≤ z ∧ z ≤ 3 := by
        have hj : d7.toNat < 8 := by omega
        rcases (show d7.toNat = 0 ∨ d7.toNat = 1 ∨ d7.toNat = 2 ∨ d7.toNat = 3 ∨ d7.toNat = 4 ∨ d7.toNat = 5 ∨ d7.toNat = 6 ∨ d7.toNat = 7 by omega) with h | h | h | h | h | h | h | h <;> rw [h]
        · exact ⟨0, rfl, by decide, by decide⟩
        · exact ⟨1, rfl, by decide, by decide⟩
        · exact ⟨1, rfl, by decide, by decide⟩
        · exact ⟨2, rfl, by decide, by decide⟩
        · exact ⟨2, rfl, by decide, by decide⟩
        · exact ⟨2, rfl, by decide, by decide⟩
        · exact ⟨3, rfl, by decide, by decide⟩
        · exact ⟨0, rfl, by decide, by decide⟩
      refine ⟨l2, _, _, _, rfl, rfl, SqL.of (k7 _ _ e6 n2), at_ofG (j := d7.toNat) (by omega) hwi, ?_⟩
      have k57 := (Kp.same (a := x) s56).trans k7
      have r7 := k57 _ _ r5 nr
      have tk7 : TK H5 H7 := fun u ys h => k57 _ _ h fun e => by
        obtain ⟨za, zb, hz⟩ := b5
        rw [e, hz] at h
        cases h
      have t7 := t5.keep tk7
      -- the lowest
      refine ⟨fun σ H' => H' = H7 ∧ ∃ w' : Int, σ = [some (.ref x), some (.int (m : Nat)), some (.int lo), some (.ref r), some (.int (0 + ((i : Nat) : Int))), some (.int w'), x6] ∧ 0 ≤ w' ∧ w' ≤ 3 ∧ (lo = (i : Nat) → w' = 0), ?_, ?_⟩
      · refine ⟨_, rfl, _, rfl, rfl, _, rfl, ite2 (fun _ => ⟨rfl, 0, rfl, by decide, by decide, fun _ => rfl⟩) (fun c => ⟨rfl, wi, rfl, w0, w3, fun e => absurd (decide_eq_true ?_) c⟩)⟩
        rw [e]
        congr 1
        omega
      rintro σ H7' ⟨e7, w', rfl, w0', w3', wl⟩
      obtain rfl : H7 = H7' := e7.symm
      refine ⟨fun σ H' => Same H7 H' ∧ ∃ w' : Int, σ = [some (.ref x), some (.int (m : Nat)), some (.int lo), some (.ref r), some (.int (0 + ((i : Nat) : Int))), some (.int w'), x6] ∧ 0 ≤ w' ∧ w' ≤ 3 ∧ (lo = (i : Nat) → w' = 0), ?_, ?_⟩
      · refine ⟨_, rfl, rfl, _, rfl, ite2 (fun c3 => ?_) (fun _ => ⟨Same.refl _, w', rfl, w0', w3', wl⟩)⟩
        have e3 : w' = 3 := V.int.inj (of_decide_eq_true c3)
        refine ⟨_, rfl, r, rfl, ⟨_, SqL.of r7⟩, fun D hD => lc_it (walk_list (xs := ts.map V.ref)) (fun j H' => Same H7 H' ∧ H' D = some (.lst ((rows.take j).map fun q => V.int q.2))) ⟨(Same.refl H7).upd_new hD, upd_same⟩ (fun j H' _ ⟨q, _⟩ => SqL.of (q _ _ r7)) ?_ ?_⟩
        · rintro j v H8' H8 hj ⟨s8, d8⟩ ⟨rfl, hv⟩
          obtain ⟨u, hu, rfl⟩ := get_map hv
          have hjr : j < rows.length := by rw [← t7.1]; exact lt_of_get hu
          have hq := List.getElem?_eq_getElem hjr
          refine ⟨rfl, _, rfl, u, _, _, _, rfl, rfl, SqT.of (s8 _ _ (t7.2 j u _ hu hq)), at_ofG (j := 1) rfl rfl, _, d8, by rw [List.length_map, List.length_take]; exact lt_line (by omega), s8.upd_own hD, ?_⟩
          rw [upd_same, ← take_snoc hq, List.map_append]
          rfl
        · rintro H8 ⟨s8, d8⟩
          have fl : ∀ l : List Row, (l.map fun q => V.int q.2).all flatV = true := fun l => List.all_eq_true.mpr fun v hv => by
            obtain ⟨q, _, rfl⟩ := List.mem_map.mp hv
            rfl
          refine ⟨D, _, rfl, .inl (SqL.of d8), rfl, fl _, _, rfl, ite2 (fun _ => ⟨s8, 2, rfl, by decide, by decide, fun e => ?_⟩) (fun _ => ⟨s8, w', rfl, w0', w3', wl⟩)⟩
          have := wl e
          omega
      rintro σ H8 ⟨s78, w2, rfl, w02, w32, wl2⟩
      have b8 := b7.same s78
      have r8 := s78 _ _ r7
      have t8 := t7.keep (fun u ys h => s78 _ _ h)
      refine ⟨_, rfl, .inl ⟨rfl, _, SqL.of r8⟩, _, rfl, _, rfl, r, rfl, ⟨_, SqL.of r8⟩, fun D hD => lc_it (walk_list (xs := ts.map V.ref)) (fun j H' => Same H8 H' ∧ H' D = some (.lst (((rows.take j).map (·.1)).map V.str))) ⟨(Same.refl H8).upd_new hD, upd_same⟩ (fun j H' _ ⟨q, _⟩ => SqL.of (q _ _ r8)) ?_ ?_⟩
      · rintro j v H9' H9 hj ⟨s9, d9⟩ ⟨rfl, hv⟩
        obtain ⟨u, hu, rfl⟩ := get_map hv
        have hjr : j < rows.length := by rw [← t8.1]; exact lt_of_get hu
        have hq := List.getElem?_eq_getElem hjr
        refine ⟨rfl, _, rfl, u, _, _, _, rfl, rfl, SqT.of (s9 _ _ (t8.2 j u _ hu hq)), at_ofG (j := 0) rfl rfl, _, d9, by rw [List.length_map, List.length_map, List.length_take]; exact lt_line (by omega), s9.upd_own hD, ?_⟩
        rw [upd_same, ← take_snoc hq, List.map_append, List.map_append]
        rfl
      · rintro H9 ⟨s9, d9⟩
        rw [List.length_map, t8.1, List.take_length] at d9
        have b9 := b8.same s9
        refine ⟨x, D, rows.map (·.1), rfl, b9, d9, b8.ne hD, by rw [List.length_map]; omega, fun HA z kA bA hz nz => ?_⟩
        refine ⟨_, rfl, le_line (show 2 ≤ 10000000 by decide), fun q hq => ?_⟩
        have sAB := (Same.refl HA).upd_new (o := .tup [.str z, .int w2]) hq
        have qB : (upd HA q (.tup [.str z, .int w2])) q = some (.tup [.str z, .int w2]) := upd_same
        have bB := bA.same sAB
        generalize upd HA q (.tup [.str z, .int w2]) = HB at sAB qB bB
        have k8B := (((Kp.same (a := x) s9).trans kA).trans (Kp.same sAB))
        have rB := k8B _ _ r8 nr
        have tB : TupsAt HB ts rows := t8.keep (fun u ys h => k8B _ _ h fun e => by
          obtain ⟨za, zb, hz'⟩ := b8
          have h : H8 u = some (.tup ys) := h
          rw [e, hz'] at h
          cases h)
        refine ⟨r, _, _, rfl, rfl, rB, by rw [List.length_map, tB.1]; exact lt_line (by omega), ?_⟩
        have tC : TupsAt (upd HB r (.lst (ts.map V.ref ++ [.ref q]))) (ts ++ [q]) (rows ++ [(z, w2)]) := ((tB.snoc (q := (z, w2)) qB)).keep (fun u ys h => by
          rw [upd_ne (ne_of h rB (fun e => nomatch e))]
          exact h)
        refine ⟨_, _, _, ts ++ [q], rows ++ [(z, w2)], rfl, (((k5.trans k57).trans (Kp.same s78)).trans k8B).upd_own hrH, bB.upd_ne nr, by rw [upd_same, List.map_append]; rfl, tC, by rw [List.length_append, lr]; rfl, ?_, fun p hp => ?_, fun p hp => ?_, fun hlo => ?_⟩
        · rw [List.map_append]
          exact List.nodup_append.mpr ⟨nd, by simp, fun y hy y' hy' e => by
            rw [List.map_cons, List.map_nil, List.mem_singleton] at hy'
            rw [e, hy'] at hy
            exact nz hy⟩
        · rcases List.mem_append.mp hp with h | h
          · exact nm p h
          · rw [List.mem_singleton.mp h]
            exact hz
        · rcases List.mem_append.mp hp with h | h
          · exact wd p h
          · rw [List.mem_singleton.mp h]
            exact ⟨w02, w32⟩
        · by_cases e : lo = (i : Nat)
          · exact ⟨(z, w2), List.mem_append_right _ (List.mem_singleton.mpr rfl), wl2 e⟩
          · obtain ⟨p, hp, h0⟩ := lf (by omega)
            exact ⟨p, List.mem_append_left _ hp, h0⟩
    · rintro σ H5 ⟨x4, x5, x6, ts, rows, rfl, k5, b5, r5, t5, lr, nd, nm, wd, lf⟩
      exact ⟨_, rfl, key H5 r rows k5 b5 nr hrH ⟨ts, r5, t5⟩ ⟨by omega, by omega, nd, nm, wd, lf (by omega)⟩⟩
end
end Sh
end
section
set_option Elab.async false
set_option linter.all false
set_option maxRecDepth 100000
set_option maxHeartbeats 4000000
namespace Sh
open PySem PySem.Spec PyProof.Rows L2
open C8 (pss_cut tCut)
open Evl (ixN_nat)
def spBed51 (C : Addr) : Sp := fun vs H Q _ => ∃ (r : Addr) (rows : List Row), vs = [.ref r] ∧ RowsAt H r rows ∧ ROk 4 rows ∧ ∀ H' p, Same H H' → H p = none → BedAt C H' p rows → Q (.ref p) H'
abbrev N_law_arity : List Str := ["kinds", "found", "pair"]
theorem sc_law_arity : FnScope N_law_arity ["kinds"] (defScope s_law_arity) := ⟨rfl, rfl, rfl, by decide +kernel, rfl, by decide +kernel, by decide +kernel⟩
abbrev N_law_made_bed : List Str := ["kinds"]
theorem sc_law_made_bed : FnScope N_law_made_bed ["kinds"] (defScope s_law_made_bed) := ⟨rfl, rfl, rfl, by decide +kernel, rfl, by decide +kernel, by decide +kernel⟩
section
variable {P : Program} {w : World} {K : PySem.W.Frag} {mg : Str → Option Value} {base : Heap} {C : Addr}
theorem ok_arity51 (T : Bl mg) (D : Def0 K mg "_law_arity" s_law_arity) : DefOk P w K mg base CX0 1 "_law_arity" spArity := by
  refine D.ok sc_law_arity (fun vs H Q E h => ?_) (fun _ _ _ _ _ _ us hl => match us, hl with | [_], _ => rfl) (fun f cdv A outer s H vs Q E hr h => ?_)
  · obtain ⟨r, rows, rfl, _⟩ := h
    rfl
  · obtain ⟨r, rows, rfl, ⟨ts, hR, hT⟩, R, k⟩ := h
    have hu := hu_of hr
    refine ⟨_, (pss_cons (ps_set (i := 1) sc_law_arity.nd rfl (Or.inl rfl) pe_dnewK)
      (pss_cons (ps_for PassesOwn.never rfl (pi_list (pv 0)) (pg_name (i := 2) sc_law_arity.nd rfl (Or.inl rfl))
        (pss_one (ps_dput hu (pv 1) (pe_ix ix_tup (pv 2) pe_int (fun _ _ => rfl)) (pe_ix ix_tup (pv 2) pe_int (fun _ _ => rfl)) rfl)))
      (pss_one (ps_ret (pv 1))))), ?_⟩
    refine fun D hD => ?_
    have s1 : Same H (upd H D (.dK [])) := (Same.refl H).upd_new hD
    refine ⟨_, rfl, r, rfl, ⟨_, SqL.of (s1 _ _ hR)⟩, for_it (walk_list (xs := ts.map V.ref)) (fun i σ H' => ∃ x : Option V, σ = [some (.ref r), some (.ref D), x] ∧ Same H H' ∧ H' D = some (.dK (wL (rows.take i))))
      ⟨none, rfl, s1, upd_same⟩ (fun i σ H' _ ⟨_, _, q, _⟩ => SqL.of (q _ _ hR)) ?_ ?_⟩
    · rintro i v σ H2 H3 hi ⟨x, rfl, s2, d2⟩ ⟨rfl, hv⟩
      rw [List.length_map, hT.1] at hi
      obtain ⟨t, ht, rfl⟩ := get_map hv
      have hq := (hT.2 i t rows[i] ht (List.getElem?_eq_getElem hi))
      have hq2 := s2 _ _ hq
      have fresh : valV (wL (rows.take i)) (.inr (rows[i]).1) = none := valV_none fun kv hk => by
        obtain ⟨q, hq, rfl⟩ := List.mem_map.mp hk
        intro e
        have e : q.1 = (rows[i]).1 := by injection e
        have hnd := nd_take R.nd (i := i) (by rw [List.length_map]; exact hi)
        apply hnd
        rw [← List.map_take, List.getElem_map, ← e]
        exact List.mem_map_of_mem hq
      refine ⟨_, rfl, t, _, _, _, rfl, rfl, SqT.of hq2, atI_nat (j := 1) rfl, _, rfl, _, rfl, t, _, _, _, rfl, rfl, SqT.of hq2, atI_nat (j := 0) rfl, D, _, rfl, DPut.k (k := .inr (rows[i]).1) d2 ?_, ?_⟩
      · unfold wL
        rw [List.length_map, List.length_take]
        exact lt_line (by have := R.len; omega)
      · refine ⟨_, rfl, s2.upd_own hD, ?_⟩
        rw [upd_same, putK_new _ fresh, ← take_snoc (List.getElem?_eq_getElem hi)]
        unfold wL
        rw [List.map_append]
        rfl
    · rintro σ H2 ⟨x, rfl, s2, d2⟩
      rw [List.length_map, hT.1, List.take_length] at d2
      exact ⟨_, rfl, k _ _ s2 hD d2⟩
theorem ok_bed51 (T : Bl mg) (c_Bed : BedOk P w K mg base C 5) (D : Def0 K mg "_law_made_bed" s_law_made_bed) : DefOk P w K mg base CX0 7 "_law_made_bed" (spBed51 C) := by
  refine D.ok sc_law_made_bed (fun vs H Q E h => ?_) (fun _ _ _ _ _ _ us hl => match us, hl with | [_], _ => rfl) (fun f cdv A outer s H vs Q E hr h => ?_)
  · obtain ⟨r, rows, rfl, _⟩ := h
    rfl
  · obtain ⟨r, rows, rfl, ⟨ts, hR, hT⟩, R4, k⟩ := h
    have R := R4.up
    refine ⟨_, (pss_cons (ps_if (pt_cmpR op_eq (pe_callB call_len_seq (by rfl) T.b_len boot_len (pa_cons (pv 0) pa_nil)) pe_int (nomark _))
        (pss_one (ps_ret (pe_bed c_Bed (hr.mono (by decide)) (pa_cons (pe_ix ix_list (pv 0) pe_int (fun _ _ => rfl)) pa_nil))))
        pss_nil)
      (pss_cons (ps_if (pt_cmpR op_eq (pe_callB call_len_seq (by rfl) T.b_len boot_len (pa_cons (pv 0) pa_nil)) pe_int (nomark _))
        (pss_one (ps_ret (pe_bed c_Bed (hr.mono (by decide)) (pa_cons (pe_ix ix_list (pv 0) pe_int (fun _ _ => rfl)) (pa_cons (pe_ix ix_list (pv 0) pe_int (fun _ _ => rfl)) pa_nil)))))
        pss_nil)
      (pss_cons (ps_if (pt_cmpR op_eq (pe_callB call_len_seq (by rfl) T.b_len boot_len (pa_cons (pv 0) pa_nil)) pe_int (nomark _))
        (pss_one (ps_ret (pe_bed c_Bed (hr.mono (by decide)) (pa_cons (pe_ix ix_list (pv 0) pe_int (fun _ _ => rfl)) (pa_cons (pe_ix ix_list (pv 0) pe_int (fun _ _ => rfl)) (pa_cons (pe_ix ix_list (pv 0) pe_int (fun _ _ => rfl)) pa_nil))))))
        pss_nil)
      (pss_one (ps_ret (pe_bed c_Bed (hr.mono (by decide)) (pa_cons (pe_ix ix_list (pv 0) pe_int (fun _ _ => rfl)) (pa_cons (pe_ix ix_list (pv 0) pe_int (fun _ _ => rfl)) (pa_cons (pe_ix ix_list (pv 0) pe_int (fun _ _ => rfl)) (pa_cons (pe_ix ix_list (pv 0) pe_int (fun _ _ => rfl)) pa_nil)))))))))), ?_⟩
    have h1 : 1 ≤ ts.length := by rw [hT.1]; exact R4.pos
    have h8 : ts.length ≤ 4 := by rw [hT.1]; have := R4.len; omega
    match ts, And.intro h1 h8 with
    | [], h => exact absurd h.1 (by decide)
    | [t0], _ =>
      refine ⟨_, rfl, r, _, rfl, .inl (SqL.of hR), rfl, _, rfl, ?_⟩
      refine ifp (by simp) ?_
      exact ⟨_, rfl, r, _, _, _, rfl, rfl, SqL.of hR, atI_nat (j := 0) rfl, [t0], rows, rfl, hT, R, k⟩
    | [t0, t1], _ =>
      refine ⟨_, rfl, r, _, rfl, .inl (SqL.of hR), rfl, _, rfl, ?_⟩
      refine ifn (fun e => by simp at e) ?_
      refine ⟨_, rfl, r, _, rfl, .inl (SqL.of hR), rfl, _, rfl, ?_⟩
      refine ifp (by simp) ?_
      exact ⟨_, rfl, r, _, _, _, rfl, rfl, SqL.of hR, atI_nat (j := 0) rfl, _, rfl, r, _, _, _, rfl, rfl, SqL.of hR, atI_nat (j := 1) rfl, [t0, t1], rows, rfl, hT, R, k⟩
    | [t0, t1, t2], _ =>
      refine ⟨_, rfl, r, _, rfl, .inl (SqL.of hR), rfl, _, rfl, ?_⟩
      refine ifn (fun e => by simp at e) ?_
      refine ⟨_, rfl, r, _, rfl, .inl (SqL.of hR), rfl, _, rfl, ?_⟩
      refine ifn (fun e => by simp at e) ?_
      refine ⟨_, rfl, r, _, rfl, .inl (SqL.of hR), rfl, _, rfl, ?_⟩
      refine ifp (by simp) ?_
      exact ⟨_, rfl, r, _, _, _, rfl, rfl, SqL.of hR, atI_nat (j := 0) rfl, _, rfl, r, _, _, _, rfl, rfl, SqL.of hR, atI_nat (j := 1) rfl, _, rfl, r, _, _, _, rfl, rfl, SqL.of hR, atI_nat (j := 2) rfl, [t0, t1, t2], rows, rfl, hT, R, k⟩
    | [t0, t1, t2, t3], _ =>
      refine ⟨_, rfl, r, _, rfl, .inl (SqL.of hR), rfl, _, rfl, ?_⟩
      refine ifn (fun e => by simp at e) ?_
      refine ⟨_, rfl, r, _, rfl, .inl (SqL.of hR), rfl, _, rfl, ?_⟩
      refine ifn (fun e => by simp at e) ?_
      refine ⟨_, rfl, r, _, rfl, .inl (SqL.of hR), rfl, _, rfl, ?_⟩
      refine ifn (fun e => by simp at e) ?_
      exact ⟨_, rfl, r, _, _, _, rfl, rfl, SqL.of hR, atI_nat (j := 0) rfl, _, rfl, r, _, _, _, rfl, rfl, SqL.of hR, atI_nat (j := 1) rfl, _, rfl, r, _, _, _, rfl, rfl, SqL.of hR, atI_nat (j := 2) rfl, _, rfl, r, _, _, _, rfl, rfl, SqL.of hR, atI_nat (j := 3) rfl, [t0, t1, t2, t3], rows, rfl, hT, R, k⟩
    | _ :: _ :: _ :: _ :: _ :: _, h => exact absurd h.2 (by simp)
end
end Sh
end
section
set_option Elab.async false
set_option linter.all false
set_option maxRecDepth 100000
set_option maxHeartbeats 4000000
namespace Sh
open PySem PySem.Spec PyProof.Rows L2
def spInteger51 : Sp := fun vs H Q _ => ∃ n : Int, vs = [.int n] ∧ Q (.bl true) H
abbrev N_law_integer : List Str := ["found"]
theorem sc_law_integer : FnScope N_law_integer ["found"] (defScope s_law_integer) := ⟨rfl, rfl, rfl, by decide +kernel, rfl, by decide +kernel, by decide +kernel⟩
section
variable {P : Program} {w : World} {K : PySem.W.Frag} {mg : Str → Option Value} {base : Heap}
theorem ok_integer51 (T : Bl mg) (D : Def0 K mg "_law_integer" s_law_integer) : DefOk P w K mg base CX0 1 "_law_integer" spInteger51 := by
  refine D.ok sc_law_integer (fun vs H Q E h => ?_) (fun _ _ _ _ _ _ us hl => match us, hl with | [_], _ => rfl) (fun f cdv A outer s' H vs Q E hr h => ?_)
  · obtain ⟨x, rfl, _⟩ := h
    rfl
  · obtain ⟨x, rfl, k⟩ := h
    refine ⟨_, (pss_one (ps_ret (pe_and (pe_callB call_isi (by rfl) T.b_isinstance (by decide +kernel) (pa_cons (pv 0) (pa_cons (pe_bltn (v := .ty "int") (by rfl) T.b_int boot_int rfl) pa_nil))) (pe_one (pe_not (pe_callB call_isi (by rfl) T.b_isinstance (by decide +kernel) (pa_cons (pv 0) (pa_cons (pe_bltn (v := .ty "bool") (by rfl) T.b_bool boot_bool rfl) pa_nil)))))))), ?_⟩
    refine ⟨_, rfl, _, _, _, _, true, rfl, .ty _, .base (.int _), rfl, _, rfl, ?_⟩
    rw [if_pos rfl]
    refine ⟨_, rfl, _, _, _, _, false, rfl, .ty _, .base (.int _), rfl, _, rfl, ?_⟩
    exact k
end
end Sh
end
section
set_option Elab.async false
set_option linter.all false
set_option maxRecDepth 100000
set_option maxHeartbeats 4000000
namespace Sh
open PySem PySem.Spec PyProof.Rows L2
open C8 (pss_cut tCut)
open Evl (ixN_nat)
/-- plain tuples -/
def PlAt {α : Type} (f : α → List V) (H : Hp) (ts : List Addr) (xs : List α) : Prop := ts.length = xs.length ∧ ∀ (i : Nat) (t : Addr) (x : α), ts[i]? = some t → xs[i]? = some x → H t = some (.tup (f x))
theorem PlAt.keep {α : Type} {f : α → List V} {H H' : Hp} {ts : List Addr} {xs : List α} (x : PlAt f H ts xs) (k : ∀ t ys, H t = some (.tup ys) → H' t = some (.tup ys)) : PlAt f H' ts xs := ⟨x.1, fun i t q a b => k _ _ (x.2 i t q a b)⟩
theorem PlAt.nil {α : Type} {f : α → List V} {H : Hp} : PlAt f H [] [] := ⟨rfl, fun i t x a => by simp at a⟩
theorem PlAt.snoc {α : Type} {f : α → List V} {H : Hp} {ts : List Addr} {xs : List α} {t : Addr} {q : α} (x : PlAt f H ts xs) (h : H t = some (.tup (f q))) : PlAt f H (ts ++ [t]) (xs ++ [q]) := by
  refine ⟨by rw [List.length_append, List.length_append, x.1]; rfl, fun i u y a b => ?_⟩
  by_cases e : i < ts.length
  · rw [List.getElem?_append_left e] at a
    rw [List.getElem?_append_left (by rw [← x.1]; exact e)] at b
    exact x.2 i u y a b
  · have el : i - ts.length < 1 := by
      have := (List.getElem?_eq_some_iff.mp a).1
      rw [List.length_append] at this
      have : ([t] : List Addr).length = 1 := rfl
      omega
    rw [List.getElem?_append_right (by omega)] at a
    rw [List.getElem?_append_right (by rw [← x.1]; omega), ← x.1] at b
    have e0 : i - ts.length = 0 := by omega
    rw [e0] at a b
    injection a with a
    injection b with b
    rw [← a, ← b]
    exact h
theorem PlAt.erase {α : Type} {f : α → List V} {H : Hp} {ts : List Addr} {xs : List α} (k : Nat) (x : PlAt f H ts xs) : PlAt f H (ts.eraseIdx k) (xs.eraseIdx k) := by
  refine ⟨by rw [List.length_eraseIdx, List.length_eraseIdx, x.1], fun i t q a b => ?_⟩
  rw [List.getElem?_eraseIdx] at a b
  split at a
  · rename_i h
    rw [if_pos h] at b
    exact x.2 _ _ _ a b
  · rename_i h
    rw [if_neg h] at b
    exact x.2 _ _ _ a b
def chV (q : Str × Str) : List V := [.str q.1, .str q.2]
def swV (q : Str × Str × Int) : List V := [.str q.1, .str q.2.1, .int q.2.2]
/-- a pair of kinds that may be swapped -/
def SwPr (rows : List Row) (q : Str × Str) : Prop := q.1 ≠ q.2 ∧ ∃ d : Int, (q.1, d) ∈ rows ∧ (q.2, d) ∈ rows
structure SwOk (rows : List Row) (sws : List (Str × Str × Int)) : Prop where
  pr : ∀ q ∈ sws, SwPr rows (q.1, q.2.1)
  nd : (sws.map fun q => (q.1, q.2.1)).Nodup
  num : ∀ q ∈ sws, 0 ≤ q.2.2 ∧ q.2.2 ≤ 1000
  len : sws.length ≤ 5
def SwsAt (H : Hp) (p : Addr) (sws : List (Str × Str × Int)) : Prop := ∃ ts, H p = some (.lst (ts.map V.ref)) ∧ PlAt swV H ts sws
def spSwaps51 : Sp := fun vs H Q _ => ∃ (x r : Addr) (rows : List Row), vs = [.ref x, .ref r] ∧ BxAt H x ∧ RowsAt H r rows ∧ ROk 4 rows ∧ ∀ (H' : Hp) (p : Addr) (sws : List (Str × Str × Int)), Kp x H H' → BxAt H' x → H p = none → SwsAt H' p sws → SwOk rows sws → Q (.ref p) H'
/-- the pairs that are found before place j of kind i's turn -/
structure ChOk (rows : List Row) (i j : Nat) (chs : List (Str × Str)) : Prop where
  pr : ∀ c ∈ chs, SwPr rows c
  wh : ∀ c ∈ chs, ∃ a b : Nat, (a < i ∨ (a = i ∧ b < j)) ∧ (rows.map (·.1))[a]? = some c.1 ∧ (rows.map (·.1))[b]? = some c.2
  nd : chs.Nodup
  len : chs.length ≤ i * rows.length + j
theorem ChOk.nil {rows : List Row} : ChOk rows 0 0 [] := ⟨fun c h => (nomatch h), fun c h => (nomatch h), List.nodup_nil, Nat.zero_le _⟩
theorem ChOk.skip {rows : List Row} {i j : Nat} {chs : List (Str × Str)} (h : ChOk rows i j chs) : ChOk rows i (j + 1) chs :=
  ⟨h.pr, fun c hc => by
    obtain ⟨a, b, hab, h1, h2⟩ := h.wh c hc
    exact ⟨a, b, by omega, h1, h2⟩, h.nd, by have := h.len; omega⟩
theorem ChOk.row {rows : List Row} {i : Nat} {chs : List (Str × Str)} (h : ChOk rows i rows.length chs) : ChOk rows (i + 1) 0 chs :=
  ⟨h.pr, fun c hc => by
    obtain ⟨a, b, hab, h1, h2⟩ := h.wh c hc
    exact ⟨a, b, by omega, h1, h2⟩, h.nd, by have := h.len; rw [Nat.succ_mul]; omega⟩
theorem erase_map {α β : Type} (f : α → β) : ∀ (xs : List α) (k : Nat), (xs.map f).eraseIdx k = (xs.eraseIdx k).map f
  | [], k => by simp
  | x :: xs, 0 => rfl
  | x :: xs, k + 1 => by
    show f x :: (xs.map f).eraseIdx k = f x :: (xs.eraseIdx k).map f
    rw [erase_map f xs k]
theorem erase_not {α : Type} : ∀ (xs : List α) (k : Nat) (h : k < xs.length), xs.Nodup → xs[k] ∉ xs.eraseIdx k
  | x :: xs, 0, h, nd => (List.nodup_cons.mp nd).1
  | x :: xs, k + 1, h, nd => by
    have h' : k < xs.length := Nat.lt_of_succ_lt_succ h
    show xs[k] ∉ x :: xs.eraseIdx k
    intro m
    rcases List.mem_cons.mp m with m | m
    · exact (List.nodup_cons.mp nd).1 (m ▸ List.getElem_mem h')
    · exact erase_not xs k h' (List.nodup_cons.mp nd).2 m
theorem nd_at {ns : List Str} (h : ns.Nodup) {a b : Nat} {n : Str} (h1 : ns[a]? = some n) (h2 : ns[b]? = some n) : a = b := by
  obtain ⟨l1, e1⟩ := List.getElem?_eq_some_iff.mp h1
  obtain ⟨l2, e2⟩ := List.getElem?_eq_some_iff.mp h2
  exact (List.getElem_inj h).mp (e1.trans e2.symm)
theorem ChOk.add {rows : List Row} {i j : Nat} {chs : List (Str × Str)} (h : ChOk rows i j chs) (nd : (rows.map (·.1)).Nodup) {p o : Row} (hp : rows[i]? = some p) (ho : rows[j]? = some o) (n : p.1 ≠ o.1) (e : p.2 = o.2) : ChOk rows i (j + 1) (chs ++ [(p.1, o.1)]) := by
  have hpi : (rows.map (·.1))[i]? = some p.1 := by rw [List.getElem?_map, hp]; rfl
  have hoj : (rows.map (·.1))[j]? = some o.1 := by rw [List.getElem?_map, ho]; rfl
  refine ⟨fun c hc => ?_, fun c hc => ?_, ?_, ?_⟩
  · rcases List.mem_append.mp hc with hc | hc
    · exact h.pr c hc
    · rw [List.mem_singleton.mp hc]
      exact ⟨n, p.2, List.mem_of_getElem? hp, by rw [e]; exact List.mem_of_getElem? ho⟩
  · rcases List.mem_append.mp hc with hc | hc
    · obtain ⟨a, b, hab, h1, h2⟩ := h.wh c hc
      exact ⟨a, b, by omega, h1, h2⟩
    · rw [List.mem_singleton.mp hc]
      exact ⟨i, j, .inr ⟨rfl, by omega⟩, hpi, hoj⟩
  · rw [List.nodup_append]
    refine ⟨h.nd, by simp, fun c hc d hd => ?_⟩
    rw [List.mem_singleton.mp hd]
    rintro rfl
    obtain ⟨a, b, hab, h1, h2⟩ := h.wh _ hc
    have := nd_at nd h1 hpi
    have := nd_at nd h2 hoj
    omega
  · rw [List.length_append]
    have := h.len
    have : [(p.1, o.1)].length = 1 := rfl
    omega
abbrev N_law_swaps : List Str := ["box", "kinds", "choices", "pair", "other", "found", "turn", "both"]
theorem sc_law_swaps : FnScope N_law_swaps ["box", "kinds"] (defScope s_law_swaps) := ⟨rfl, rfl, rfl, by decide +kernel, rfl, by decide +kernel, by decide +kernel⟩
section
variable {P : Program} {w : World} {K : PySem.W.Frag} {mg : Str → Option Value} {base : Heap}
theorem PlAt.two {α : Type} {f : α → List V} {H : Hp} {us : List Addr} {xs : List α} {l t : Addr} {ys : List V} {vs : List V} (x : PlAt f H us xs) (ht : H t = none) (hl : H l = some (.lst ys)) {q : α} : PlAt f (upd (upd H t (.tup (f q))) l (.lst vs)) (us ++ [t]) (xs ++ [q]) := by
  have ntl : t ≠ l := fun e => by
    rw [e, hl] at ht
    cases ht
  refine (x.keep fun u zs h => ?_).snoc ?_
  · have n1 : u ≠ t := fun e => by
      rw [e, ht] at h
      cases h
    have n2 : u ≠ l := fun e => by
      rw [e, hl] at h
      cases h
    rw [upd_ne n2, upd_ne n1]
    exact h
  · rw [upd_ne ntl]
    exact upd_same
theorem ok_swaps51 (T : Bl mg) (c_law_pick : DefOk P w K mg base CX0 1 "_law_pick" spPick51) (c_law_number : DefOk P w K mg base CX0 2 "_law_number" spNum51) (D : Def0 K mg "_law_swaps" s_law_swaps) : DefOk P w K mg base CX0 3 "_law_swaps" spSwaps51 := by
  refine D.ok sc_law_swaps (fun vs H Q E h => ?_) (fun _ _ _ _ _ _ us hl => match us, hl with | [_, _], _ => rfl) (fun f cdv A outer s' H vs Q E hr h => ?_)
  · obtain ⟨x, r, rows, rfl, _⟩ := h
    rfl
  · obtain ⟨x, r, rows, rfl, hx, ⟨ts, hR, hT⟩, R, k⟩ := h
    refine ⟨_, (pss_cons (ps_set (i := 2) sc_law_swaps.nd rfl (Or.inl rfl) (pe_lst pa_nil))
      (pss_cons (ps_for PassesOwn.never rfl (pi_list (pv 1)) (pg_name (i := 3) sc_law_swaps.nd rfl (Or.inl rfl))
        (pss_one (ps_for PassesOwn.never rfl (pi_list (pv 1)) (pg_name (i := 4) sc_law_swaps.nd rfl (Or.inl rfl))
          (pss_one (ps_if (PW.pt (pw_and (pt_cmpR op_ne (pe_ix ix_tup (pv 3) pe_int (fun _ _ => rfl)) (pe_ix ix_tup (pv 4) pe_int (fun _ _ => rfl)) (nomark _)) (pw_and1 (pt_cmpR op_eq (pe_ix ix_tup (pv 3) pe_int (fun _ _ => rfl)) (pe_ix ix_tup (pv 4) pe_int (fun _ _ => rfl)) (nomark _)))))
            (pss_one (ps_expr (pe_bm PySem.F.plainAttrs_list PySem.F.slot_list_append PySem.F.type_list_append mt_append (pv 2) (pa_cons (pe_tup (pa_cons (pe_ix ix_tup (pv 3) pe_int (fun _ _ => rfl)) (pa_cons (pe_ix ix_tup (pv 4) pe_int (fun _ _ => rfl)) pa_nil))) pa_nil))))
            pss_nil)))))
      (pss_cons (ps_set (i := 5) sc_law_swaps.nd rfl (Or.inl rfl) (pe_lst pa_nil))
      (pss_cons (ps_for PassesOwn.never rfl (pi_range1 (by rfl) T.b_range (pa_cons (pe_d c_law_pick (hr.mono (by decide)) pass0 (pa_cons (pv 0) (pa_cons pe_int pa_nil))) pa_nil)) (pg_name (i := 6) sc_law_swaps.nd rfl (Or.inl rfl))
        (pss_cons (ps_if (pt_cmpR op_eq (pe_callB call_len_seq (by rfl) T.b_len boot_len (pa_cons (pv 2) pa_nil)) pe_int (nomark _))
          (pss_one ps_break)
          pss_nil)
        (pss_cons (ps_set (i := 7) sc_law_swaps.nd rfl (Or.inl rfl) (pe_bm PySem.F.plainAttrs_list PySem.F.slot_list_pop PySem.F.type_list_pop mt_popAt (pv 2) (pa_cons (pe_d c_law_pick (hr.mono (by decide)) pass0 (pa_cons (pv 0) (pa_cons (pe_callB call_len_seq (by rfl) T.b_len boot_len (pa_cons (pv 2) pa_nil)) pa_nil))) pa_nil)))
        (pss_one (ps_expr (pe_bm PySem.F.plainAttrs_list PySem.F.slot_list_append PySem.F.type_list_append mt_append (pv 5) (pa_cons (pe_tup (pa_cons (pe_ix ix_tup (pv 7) pe_int (fun _ _ => rfl)) (pa_cons (pe_ix ix_tup (pv 7) pe_int (fun _ _ => rfl)) (pa_cons (pe_d c_law_number (hr.mono (by decide)) pass0 (pa_cons (pv 0) pa_nil)) pa_nil)))) pa_nil)))))))
      (pss_one (ps_ret (pv 5))))))), ?_⟩
    refine ⟨le_line (show 0 ≤ 10000000 by decide), fun l hl => ?_⟩
    have s1 : Same H (upd H l (.lst [])) := (Same.refl H).upd_new hl
    have l1 : (upd H l (.lst [])) l = some (.lst (([] : List Addr).map V.ref)) := upd_same
    generalize upd H l (.lst []) = H1 at s1 l1
    refine ⟨_, rfl, r, rfl, ⟨_, SqL.of (s1 _ _ hR)⟩, for_it (walk_list (xs := ts.map V.ref)) (fun i σ H' => ∃ (x3 x4 x5 x6 x7 : Option V) (us : List Addr) (chs : List (Str × Str)), σ = [some (.ref x), some (.ref r), some (.ref l), x3, x4, none, none, none] ∧ Same H H' ∧ H' l = some (.lst (us.map V.ref)) ∧ PlAt chV H' us chs ∧ ChOk rows i 0 chs)
      ⟨none, none, none, none, none, [], [], rfl, s1, l1, .nil, .nil⟩ (fun i σ H' _ ⟨_, _, _, _, _, _, _, _, q, _⟩ => SqL.of (q _ _ hR)) ?_ ?_⟩
    · rintro i v σ H2 H3 hi ⟨x3, x4, x5, x6, x7, us, chs, rfl, s2, l2, p2, c2⟩ ⟨rfl, hv⟩
      rw [List.length_map, hT.1] at hi
      obtain ⟨t, ht, rfl⟩ := get_map hv
      have hq := (hT.2 i t rows[i] ht (List.getElem?_eq_getElem hi))
      refine ⟨_, rfl, r, rfl, ⟨_, SqL.of (s2 _ _ hR)⟩, for_it (walk_list (xs := ts.map V.ref)) (fun j σ H' => ∃ (x4 : Option V) (us : List Addr) (chs : List (Str × Str)), σ = [some (.ref x), some (.ref r), some (.ref l), some (.ref t), x4, none, none, none] ∧ Same H H' ∧ H' l = some (.lst (us.map V.ref)) ∧ PlAt chV H' us chs ∧ ChOk rows i j chs)
        ⟨x4, us, chs, rfl, s2, l2, p2, c2⟩ (fun i σ H' _ ⟨_, _, _, _, q, _⟩ => SqL.of (q _ _ hR)) ?_ ?_⟩
      · rintro j v σ H4 H5 hj ⟨x4, us, chs, rfl, s4, l4, p4, c4⟩ ⟨rfl, hv⟩
        rw [List.length_map, hT.1] at hj
        obtain ⟨u, hu, rfl⟩ := get_map hv
        have ho := (hT.2 j u rows[j] hu (List.getElem?_eq_getElem hj))
        have hq4 := s4 _ _ hq
        have ho4 := s4 _ _ ho
        refine ⟨_, rfl, t, _, _, _, rfl, rfl, SqT.of hq4, atI_nat (j := 0) rfl, _, rfl, u, _, _, _, rfl, rfl, SqT.of ho4, atI_nat (j := 0) rfl, rfl, _, rfl, ite2 (fun c => ?_) (fun c => ⟨_, us, chs, rfl, s4, l4, p4, c4.skip⟩)⟩
        refine ⟨_, rfl, t, _, _, _, rfl, rfl, SqT.of hq4, atI_nat (j := 1) rfl, _, rfl, u, _, _, _, rfl, rfl, SqT.of ho4, atI_nat (j := 1) rfl, rfl, _, rfl, ite2 (fun d => ?_) (fun d => ⟨_, us, chs, rfl, s4, l4, p4, c4.skip⟩)⟩
        refine ⟨_, rfl, .inl ⟨rfl, _, SqL.of l4⟩, _, rfl, t, _, _, _, rfl, rfl, SqT.of hq4, atI_nat (j := 0) rfl, _, rfl, u, _, _, _, rfl, rfl, SqT.of ho4, atI_nat (j := 0) rfl, le_line (show 2 ≤ 10000000 by decide), fun z hz => ?_⟩
        have nz : z ≠ l := fun e => by
          rw [e, l4] at hz
          cases hz
        refine ⟨l, _, _, rfl, rfl, by rw [upd_ne (Ne.symm nz)]; exact l4, ?_, ?_⟩
        · rw [List.length_map, p4.1]
          have h1 := c4.len
          have h2 := R.len
          have h3 : i * rows.length ≤ 4 * 4 := Nat.mul_le_mul (by omega) (by omega)
          exact lt_line (n := chs.length) (by omega)
        · refine ⟨_, us ++ [z], chs ++ [((rows[i]).1, (rows[j]).1)], rfl, (s4.upd_new hz).upd_own hl, ?_, p4.two hz l4, c4.add R.nd (List.getElem?_eq_getElem hi) (List.getElem?_eq_getElem hj) ?_ ?_⟩
          · rw [upd_same, List.map_append]
            rfl
          · intro e
            rw [e] at c
            simp at c
          · have := of_decide_eq_true d
            injection this
      · rintro σ H4 ⟨x4, us, chs, rfl, s4, l4, p4, c4⟩
        rw [List.length_map, hT.1] at c4
        exact ⟨_, x4, none, none, none, us, chs, rfl, s4, l4, p4, c4.row⟩
    · rintro σ H2 ⟨x3, x4, x5, x6, x7, us, chs, rfl, s2, l2, p2, c2⟩
      rw [List.length_map, hT.1] at c2
      have nlx : l ≠ x := hx.ne hl
      refine ⟨le_line (show 0 ≤ 10000000 by decide), fun p hp => ?_⟩
      have npl : p ≠ l := fun e => by
        rw [e, l2] at hp
        cases hp
      have s3 : Same H (upd H2 p (.lst [])) := s2.upd_new hp
      have l3 : (upd H2 p (.lst [])) l = some (.lst (us.map V.ref)) := by rw [upd_ne (Ne.symm npl)]; exact l2
      have p3 : (upd H2 p (.lst [])) p = some (.lst (([] : List Addr).map V.ref)) := upd_same
      have q3 : PlAt chV (upd H2 p (.lst [])) us chs := p2.keep fun u ys h => by
        rw [upd_ne fun e => by rw [e, hp] at h; cases h]
        exact h
      have hpH : H p = none := by
        cases e : H p with
        | none => rfl
        | some o =>
          rw [s2 _ _ e] at hp
          cases hp
      have npx : p ≠ x := hx.ne hpH
      generalize upd H2 p (.lst []) = H3 at s3 l3 p3 q3
      refine ⟨_, rfl, x, 6, rfl, hx.same s3, by decide, by decide, fun H4 e k4 b4 e0 e6 => ⟨_, rfl, by omega, by omega, ?_⟩⟩
      have hl16 : chs.length ≤ 16 := by
        have h1 := c2.len
        have h2 := R.len
        have h3 : rows.length * rows.length ≤ 4 * 4 := Nat.mul_le_mul (by omega) (by omega)
        omega
      have kp4 : ∀ u ys, H3 u = some (.tup ys) → H4 u = some (.tup ys) := fun u ys h => k4 _ _ h fun e => by
        obtain ⟨za, zb, hz⟩ := hx.same s3
        rw [e, hz] at h
        cases h
      refine for_range (n := e.toNat) (fun i σ H' => ∃ (x6 x7 : Option V) (us : List Addr) (chs : List (Str × Str)) (vs : List Addr) (sws : List (Str × Str × Int)), σ = [some (.ref x), some (.ref r), some (.ref l), x3, x4, some (.ref p), x6, x7] ∧ Kp x H H' ∧ BxAt H' x ∧ H' l = some (.lst (us.map V.ref)) ∧ PlAt chV H' us chs ∧ chs.Nodup ∧ (∀ c ∈ chs, SwPr rows c) ∧ chs.length ≤ 16 ∧ H' p = some (.lst (vs.map V.ref)) ∧ PlAt swV H' vs sws ∧ sws.length = i ∧ (∀ q ∈ sws, SwPr rows (q.1, q.2.1)) ∧ (sws.map fun q => (q.1, q.2.1)).Nodup ∧ (∀ q ∈ sws, 0 ≤ q.2.2 ∧ q.2.2 ≤ 1000) ∧ ∀ q ∈ sws, (q.1, q.2.1) ∉ chs)
        ⟨none, none, us, chs, [], [], rfl, (Kp.same s3).trans k4, b4, k4 _ _ l3 nlx, q3.keep kp4, c2.nd, c2.pr, hl16, k4 _ _ p3 npx, .nil, rfl, (fun q h => nomatch h), List.nodup_nil, (fun q h => nomatch h), fun q h => nomatch h⟩ ?_ ?_
      · rintro i σ H5 hi ⟨x6, x7, us, chs, vs, sws, rfl, k5, b5, l5, q5, nd5, pr5, len5, p5, w5, wl, wpr, wnd, wnum, wdis⟩
        refine ⟨_, rfl, l, _, rfl, .inl (SqL.of l5), rfl, _, rfl, ite2 (fun c => ?_) (fun c => ?_)⟩
        · exact ⟨_, rfl, k H5 p sws k5 b5 hpH ⟨vs, p5, w5⟩ ⟨wpr, wnd, wnum, by omega⟩⟩
        · have cpos : 0 < chs.length := by
            rw [List.length_map, q5.1] at c
            rcases Nat.eq_zero_or_pos chs.length with h | h
            · exact absurd (by rw [h]; rfl) c
            · exact h
          have lus : (us.map V.ref).length = chs.length := by rw [List.length_map, q5.1]
          refine ⟨_, rfl, .inl ⟨rfl, _, SqL.of l5⟩, _, rfl, _, rfl, l, _, rfl, .inl (SqL.of l5), x, _, rfl, b5, by omega, by omega, fun H6 d k6 b6 d0 d6 => ?_⟩
          have l6 := k6 _ _ l5 nlx
          have kt6 : ∀ u ys, H5 u = some (.tup ys) → H6 u = some (.tup ys) := fun u ys h => k6 _ _ h fun e => by
            obtain ⟨za, zb, hz⟩ := b5
            rw [e, hz] at h
            cases h
          have hd : d.toNat < chs.length := by omega
          have hdu : d.toNat < us.length := by rw [q5.1]; exact hd
          have ht6 := kt6 _ _ (q5.2 d.toNat us[d.toNat] chs[d.toNat] (List.getElem?_eq_getElem hdu) (List.getElem?_eq_getElem hd))
          refine ⟨l, _, _, d.toNat, _, rfl, rfl, l6, by omega, by omega, ?_, (by rw [List.getElem?_map, List.getElem?_eq_getElem hdu]; rfl : (us.map V.ref)[d.toNat]? = some (V.ref us[d.toNat])), ?_⟩
          · rw [lus]
            exact seqIndex_of d0 (by omega)
          have p6 := k6 _ _ p5 npx
          have l7 : (upd H6 l (.lst ((us.map V.ref).eraseIdx d.toNat))) l = some (.lst ((us.eraseIdx d.toNat).map V.ref)) := by
            rw [upd_same, erase_map]
          have p7 : (upd H6 l (.lst ((us.map V.ref).eraseIdx d.toNat))) p = some (.lst (vs.map V.ref)) := by rw [upd_ne npl]; exact p6
          have kt7 : ∀ u ys, H6 u = some (.tup ys) → (upd H6 l (.lst ((us.map V.ref).eraseIdx d.toNat))) u = some (.tup ys) := fun u ys h => by
            rw [upd_ne fun e => by rw [e, l6] at h; cases h]
            exact h
          have k7 : Kp x H (upd H6 l (.lst ((us.map V.ref).eraseIdx d.toNat))) := fun a o h n => by
            rw [upd_ne fun e => by rw [e, hl] at h; cases h]
            exact (k5.trans k6) a o h n
          have b7 := b6.upd_ne (o := .lst ((us.map V.ref).eraseIdx d.toNat)) nlx
          generalize upd H6 l (.lst ((us.map V.ref).eraseIdx d.toNat)) = H7 at l7 p7 kt7 k7 b7
          have t7 := kt7 _ _ ht6
          refine ⟨_, rfl, .inl ⟨rfl, _, SqL.of p7⟩, _, rfl, _, _, _, _, rfl, rfl, SqT.of t7, atI_nat (j := 0) rfl, _, rfl, _, _, _, _, rfl, rfl, SqT.of t7, atI_nat (j := 1) rfl, _, rfl, x, rfl, b7, fun H8 n k8 b8 n0 n1 => ?_⟩
          have p8 := k8 _ _ p7 npx
          have l8 := k8 _ _ l7 nlx
          have kt8 : ∀ u ys, H7 u = some (.tup ys) → H8 u = some (.tup ys) := fun u ys h => k8 _ _ h fun e => by
            obtain ⟨za, zb, hz⟩ := b7
            rw [e, hz] at h
            cases h
          refine ⟨le_line (show 3 ≤ 10000000 by decide), fun z hz => ?_⟩
          have nzp : z ≠ p := fun e => by rw [e, p8] at hz; cases hz
          have nzl : z ≠ l := fun e => by rw [e, l8] at hz; cases hz
          have nzx := b8.ne hz
          refine ⟨p, _, _, rfl, rfl, by rw [upd_ne (Ne.symm nzp)]; exact p8, ?_, ?_⟩
          · rw [List.length_map, w5.1]
            exact lt_line (n := sws.length) (by omega)
          · have hm := List.getElem_mem hd
            refine ⟨_, _, us.eraseIdx d.toNat, chs.eraseIdx d.toNat, vs ++ [z], sws ++ [((chs[d.toNat]).1, (chs[d.toNat]).2, n)], rfl, fun a o h nn => ?_, ?_, ?_, (q5.erase d.toNat).keep ?_, ?_, fun c hc => pr5 c (List.mem_of_mem_eraseIdx hc), ?_, ?_, (w5.keep fun u ys h => kt8 _ _ (kt7 _ _ (kt6 _ _ h))).two hz p8, ?_, ?_, ?_, ?_, ?_⟩
            · have h8 := (k7.trans k8) a o h nn
              rw [upd_ne (fun e => by rw [e, hpH] at h; cases h), upd_ne (fun e => by rw [e, hz] at h8; cases h8)]
              exact h8
            · exact (b8.upd_ne nzx).upd_ne npx
            · rw [upd_ne (Ne.symm npl), upd_ne (Ne.symm nzl)]
              exact l8
            · intro u ys h
              have h8 := kt8 _ _ (kt7 _ _ (kt6 _ _ h))
              rw [upd_ne (fun e => by rw [e, p8] at h8; cases h8), upd_ne (fun e => by rw [e, hz] at h8; cases h8)]
              exact h8
            · exact nd5.sublist (List.eraseIdx_sublist _ _)
            · have := List.length_eraseIdx_le chs d.toNat
              omega
            · rw [upd_same, List.map_append]
              rfl
            · rw [List.length_append, wl]
              rfl
            · intro q hq
              rcases List.mem_append.mp hq with hq | hq
              · exact wpr q hq
              · rw [List.mem_singleton.mp hq]
                exact pr5 _ hm
            · rw [List.map_append, List.nodup_append]
              refine ⟨wnd, by simp, fun c hc e he => ?_⟩
              rw [List.mem_singleton.mp he]
              rintro rfl
              obtain ⟨q, hq, e1⟩ := List.mem_map.mp hc
              exact wdis q hq (by rw [e1]; exact hm)
            · intro q hq
              rcases List.mem_append.mp hq with hq | hq
              · exact wnum q hq
              · rw [List.mem_singleton.mp hq]
                exact ⟨n0, n1⟩
            · intro q hq
              rcases List.mem_append.mp hq with hq | hq
              · exact fun m => wdis q hq (List.mem_of_mem_eraseIdx m)
              · rw [List.mem_singleton.mp hq]
                exact erase_not chs d.toNat hd nd5
      · rintro σ H5 ⟨x6, x7, us, chs, vs, sws, rfl, k5, b5, l5, q5, nd5, pr5, len5, p5, w5, wl, wpr, wnd, wnum, wdis⟩
        exact ⟨_, rfl, k H5 p sws k5 b5 hpH ⟨vs, p5, w5⟩ ⟨wpr, wnd, wnum, by omega⟩⟩
end
end Sh
end
section
set_option Elab.async false
set_option linter.all false
set_option maxRecDepth 100000
set_option maxHeartbeats 4000000
namespace Sh
open PySem PySem.Spec PyProof.Rows L2
open C8 (pss_cut tCut)
open Evl (ixN_nat)
abbrev Swap : Type := Str × Str × Int
theorem nm_ok {z : Str} (h : IsNm z) : PyData.strOk z = true := by
  unfold PyData.strOk
  rw [← Array.all_toList, List.all_eq_true]
  intro c hc
  have := h.2.2 c hc
  exact decide_eq_true (by omega)
theorem ok_app {a b : Str} (h : PyData.strOk a = true) (h2 : PyData.strOk b = true) : PyData.strOk (a ++ b) = true := by
  unfold PyData.strOk at h h2 ⊢
  rw [← Array.all_toList, List.all_eq_true] at h h2 ⊢
  intro c hc
  rw [app_tl] at hc
  rcases List.mem_append.mp hc with q | q
  · exact h c q
  · exact h2 c q
/-- a text of at most m signs that may be told -/
def TOk (m : Nat) (z : Str) : Prop := z.cps.size ≤ m ∧ PyData.strOk z = true
theorem TOk.nm {z : Str} (h : IsNm z) : TOk 8 z := ⟨h.2.1, nm_ok h⟩
theorem TOk.up {z : Str} (h : TOk 8 z) : TOk 9 z := ⟨Nat.le_trans h.1 (by decide), h.2⟩
theorem TOk.Z {z : Str} (h : TOk 8 z) : TOk 9 (z ++ ("Z" : Str)) := by
  refine ⟨?_, ok_app h.2 (by decide +kernel)⟩
  have := h.1
  rw [size_tl, app_tl, List.length_append, ← size_tl]
  have e : ("Z" : Str).cps.toList.length = 1 := by decide +kernel
  omega
theorem PlAt.take {α : Type} {f : α → List V} {H : Hp} {ts : List Addr} {xs : List α} (k : Nat) (x : PlAt f H ts xs) : PlAt f H (ts.take k) (xs.take k) := by
  refine ⟨by rw [List.length_take, List.length_take, x.1], fun i t q a b => ?_⟩
  have hi : i < k := by
    have := (List.getElem?_eq_some_iff.mp a).1
    rw [List.length_take] at this
    omega
  rw [List.getElem?_take_of_lt hi] at a b
  exact x.2 i t q a b
theorem PlAt.drop {α : Type} {f : α → List V} {H : Hp} {ts : List Addr} {xs : List α} (k : Nat) (x : PlAt f H ts xs) : PlAt f H (ts.drop k) (xs.drop k) := by
  refine ⟨by rw [List.length_drop, List.length_drop, x.1], fun i t q a b => ?_⟩
  rw [List.getElem?_drop] at a b
  exact x.2 _ t q a b
theorem PlAt.app {α : Type} {f : α → List V} {H : Hp} {ts us : List Addr} {xs ys : List α} (x : PlAt f H ts xs) (y : PlAt f H us ys) : PlAt f H (ts ++ us) (xs ++ ys) := by
  refine ⟨by rw [List.length_append, List.length_append, x.1, y.1], fun i t q a b => ?_⟩
  by_cases c : i < ts.length
  · rw [List.getElem?_append_left c] at a
    rw [List.getElem?_append_left (by rw [← x.1]; exact c)] at b
    exact x.2 i t q a b
  · rw [List.getElem?_append_right (by omega)] at a
    rw [List.getElem?_append_right (by rw [← x.1]; omega), ← x.1] at b
    exact y.2 _ t q a b
theorem PlAt.one {α : Type} {f : α → List V} {H : Hp} {t : Addr} {x : α} (h : H t = some (.tup (f x))) : PlAt f H [t] [x] := by
  have := (PlAt.nil (f := f) (H := H)).snoc (t := t) (q := x) h
  exact this
theorem BxAt.tk {H H' : Hp} {x : Addr} (b : BxAt H x) (k : Kp x H H') : TK H H' := fun t xs h => k t _ h fun e => by
  obtain ⟨za, zb, hz⟩ := b
  rw [e, hz] at h
  cases h
theorem BxAt.nref {H : Hp} {x p : Addr} {ts : List Addr} (b : BxAt H x) (h : H p = some (.lst (ts.map V.ref))) : p ≠ x := fun e => by
  obtain ⟨za, zb, hz⟩ := b
  rw [e, hz] at h
  injection h with h
  injection h with h
  cases ts with
  | nil => cases h
  | cons t ts =>
    injection h with h _
    cases h
section
variable {P : Program} {w : World} {K : PySem.W.Frag} {mg : Str → Option Value} {base : Heap}
end
end Sh
end
section
set_option Elab.async false
set_option linter.all false
set_option maxRecDepth 100000
set_option maxHeartbeats 4000000
namespace Sh
open PySem PySem.Spec PyProof.Rows L2
open C8 (pss_cut tCut)
open Evl (ixN_nat)
def HasN (rows : List Row) (z : Str) : Prop := ∃ q ∈ rows, q.1 = z
/-- a swap that may stand behind these -/
structure GoodQ (rows : List Row) (bef : List Swap) (q : Swap) : Prop where
  a : HasN rows q.1
  b : HasN rows q.2.1
  ne : q.1 ≠ q.2.1
  wd : wR rows q.1 = wR rows q.2.1
  lo : 0 ≤ q.2.2
  hi : q.2.2 ≤ 1000
  nw : (q.1, q.2.1) ∉ bef.map fun p => (p.1, p.2.1)
def GoodB (rows : List Row) (sws : List Swap) (n : Nat) : Prop := ∀ j q, j < n → sws[j]? = some q → GoodQ rows (sws.take j) q
theorem GoodB.zero {rows : List Row} {sws : List Swap} : GoodB rows sws 0 := fun j q h => absurd h (Nat.not_lt_zero _)
theorem GoodB.more {rows : List Row} {sws : List Swap} {n : Nat} (g : GoodB rows sws n) {q : Swap} (hq : sws[n]? = some q) (h : GoodQ rows (sws.take n) q) : GoodB rows sws (n + 1) := fun j p hj hp => by
  rcases Nat.lt_or_ge j n with c | c
  · exact g j p c hp
  · have e : j = n := by omega
    subst e
    rw [hq] at hp
    injection hp with hp
    exact hp ▸ h
/-- e is the first fault's number; -1 the cutting price, -2 none -/
def FstF (rows : List Row) (cut : Int) (sws : List Swap) (e : Int) : Prop :=
  (e = -1 ∧ (cut < 0 ∨ 1000 < cut)) ∨ (e = -2 ∧ 0 ≤ cut ∧ cut ≤ 1000 ∧ GoodB rows sws sws.length) ∨ (0 ≤ cut ∧ cut ≤ 1000 ∧ ∃ (i : Nat) (q : Swap), e = (i : Nat) ∧ sws[i]? = some q ∧ GoodB rows sws i ∧ ¬ GoodQ rows (sws.take i) q)
theorem FstF.uniq {rows : List Row} {cut : Int} {sws : List Swap} {e e' : Int} (h : FstF rows cut sws e) (h' : FstF rows cut sws e') : e = e' := by
  rcases h with ⟨h1, h2⟩ | ⟨h1, h2, h3, h4⟩ | ⟨h2, h3, i, q, h1, h4, h5, h6⟩
  · rcases h' with ⟨g1, g2⟩ | ⟨g1, g2, g3, g4⟩ | ⟨g2, g3, j, p, g1, g4, g5, g6⟩
    · omega
    · omega
    · omega
  · rcases h' with ⟨g1, g2⟩ | ⟨g1, g2, g3, g4⟩ | ⟨g2, g3, j, p, g1, g4, g5, g6⟩
    · omega
    · omega
    · exact absurd (h4 j p (List.getElem?_eq_some_iff.mp g4).1 g4) g6
  · rcases h' with ⟨g1, g2⟩ | ⟨g1, g2, g3, g4⟩ | ⟨g2, g3, j, p, g1, g4, g5, g6⟩
    · omega
    · exact absurd (g4 i q (List.getElem?_eq_some_iff.mp h4).1 h4) h6
    · rcases Nat.lt_trichotomy i j with c | c | c
      · exact absurd (g5 i q c h4) h6
      · omega
      · exact absurd (h5 j p c g4) g6
theorem FstF.ok {rows : List Row} {cut : Int} {sws : List Swap} (W : SwOk rows sws) (R : ROk 4 rows) (h1 : 0 ≤ cut) (h2 : cut ≤ 1000) : FstF rows cut sws (-2) := by
  refine .inr (.inl ⟨rfl, h1, h2, fun j q _ hq => ?_⟩)
  have hm := List.mem_of_getElem? hq
  obtain ⟨n, d, q1, q2⟩ := W.pr q hm
  obtain ⟨n1, n2⟩ := W.num q hm
  have key : ∀ z, (z, d) ∈ rows → ((wR rows z : Nat) : Int) = d := fun z hz => by
    obtain ⟨p, p1, p2, _, p4, _⟩ := wR_mem R (z := z) ⟨_, hz, rfl⟩
    rw [p4]
    obtain ⟨i, hi, ei⟩ := List.mem_iff_getElem.mp p1
    obtain ⟨k, hk, ek⟩ := List.mem_iff_getElem.mp hz
    have a1 : (rows.map (·.1))[i]? = some z := by rw [List.getElem?_map, List.getElem?_eq_getElem hi, ei, Option.map_some, p2]
    have a2 : (rows.map (·.1))[k]? = some z := by rw [List.getElem?_map, List.getElem?_eq_getElem hk, ek]; rfl
    have := nd_at R.nd a1 a2
    subst this
    rw [← ei, ek]
  refine ⟨⟨_, q1, rfl⟩, ⟨_, q2, rfl⟩, n, ?_, n1, n2, fun hc => ?_⟩
  · have := key q.1 q1
    have := key q.2.1 q2
    omega
  · rw [List.map_take] at hc
    obtain ⟨k, hk, ek⟩ := List.mem_iff_getElem.mp hc
    rw [List.length_take] at hk
    rw [List.getElem_take] at ek
    have a1 : (sws.map fun p => (p.1, p.2.1))[k]? = some (q.1, q.2.1) := by rw [List.getElem?_eq_getElem (by omega), ek]
    have a2 : (sws.map fun p => (p.1, p.2.1))[j]? = some (q.1, q.2.1) := by rw [List.getElem?_map, hq]; rfl
    have nd := W.nd
    have : k = j := by
      obtain ⟨l1, e1⟩ := List.getElem?_eq_some_iff.mp a1
      obtain ⟨l2, e2⟩ := List.getElem?_eq_some_iff.mp a2
      exact (List.getElem_inj nd).mp (e1.trans e2.symm)
    omega
section
variable {P : Program} {w : World} {K : PySem.W.Frag} {mg : Str → Option Value} {base : Heap}
theorem has_val {rows : List Row} {m : Int} (R : ROk m rows) (z : Str) : (valV (wL rows) (.inr z)).isSome = true ↔ HasN rows z := by
  rcases nm_case R z with h | h
  · rw [h.2.2.1]
    exact ⟨fun e => (nomatch e), fun ⟨q, hq, e⟩ => absurd e (h.2.2.2 q hq)⟩
  · rw [h.2.2.1]
    exact ⟨fun _ => h.2.2.2, fun _ => rfl⟩
end
end Sh
end
section
set_option Elab.async false
set_option linter.all false
set_option maxRecDepth 100000
set_option maxHeartbeats 4000000
namespace L2
open PySem PySem.Spec PyProof.Rows
namespace KSet
abbrev Ks : Type := List Key
/-- a tuple's hash -/
def kh (P : Program) (w : World) (k : Ks) : Int := tupleKeyHash (mixKind P w) k
/-- a tuple of k stands at b -/
abbrev Tk (P : Program) (w : World) (h : Heap) (k : Ks) (b : Addr) : Prop := IsTupleKey (mixKind P w) h k b
def row (P : Program) (w : World) (p : Ks × Addr) : Int × Value := (kh P w p.1, .ref p.2)
/-- the set's own object -/
structure Is (P : Program) (w : World) (h : Heap) (a : Addr) (L : List (Ks × Addr)) (ep : Nat) (t : SetTable) : Prop where
  ob : ∃ o, h.get? a = some o ∧ o.ExactSet ∧ o.data = .set (L.map (row P w)).toArray ep t
  tb : TabOk t (L.map fun p => kh P w p.1)
  rm : (t.mask = 7 ∧ L.length ≤ 4) ∨ (t.mask = 31 ∧ L.length ≤ 18)
/-- the way's c-th step -/
def pr (m : Nat) (g : Int) (c : Nat) : SetTable.Probe := nth m (runAt m (SetTable.bits g % (m + 1)) (SetTable.bits g)) c
theorem pr_dm (m : Nat) (g : Int) : ∀ c, (pr m g c).dummy = none
  | 0 => rfl
  | c + 1 => by
    have ih := pr_dm m g c
    unfold pr at ih ⊢
    rw [nth_succ]
    unfold adv
    split <;> exact ih
theorem pr_on (m : Nat) (g : Int) (c d : Nat) : nth m (pr m g c) d = pr m g (c + d) := (nth_add m c _ d).symm
section
variable {P : Program} {w : World} {A : Around} {E : Value → Shared → Prop} {s : Shared} {a x : Addr} {L : List (Ks × Addr)} {ep : Nat} {t : SetTable} {k : Ks}
theorem plain_val {u : Value} (h : carriedByValue u = true) (n : Nat) : ofAClassStatement n u = pure false ∧ ∃ b, hashByValue n u = pure b := by
  cases u with
  | ref a => exact nomatch h
  | _ => constructor <;> (cases n <;> first | rfl | exact ⟨_, rfl⟩)
theorem no_class {b : Addr} {Q : Bool → Shared → Prop} (z : Tk P w s.heap k b) (h : Q false s) : wpAny (model P w) A (ofAClassStatement 8 (.ref b)) Q E s := by
  have hT := z.typeIs
  obtain ⟨o, its, n, ho, _, hd, hi⟩ := z
  unfold ofAClassStatement
  refine wpAny_bind (wpAny_typeOf hT ?_)
  dsimp only
  simp only [show (("tuple" : String) == "tuple") = true from rfl, if_true, Bool.not_true, Bool.false_eq_true, if_false]
  first | refine wpAny_bind (wpAny_pure ?_) | skip
  show wpAny _ _ (seqItems? (.ref b) >>= _) _ _ s
  refine wpAny_bind (wpAny_seqItems ho hd ?_)
  dsimp only
  refine wpAny_bind ?_
  show wpAny _ _ (forIn its _ _) _ _ s
  rw [← Array.forIn_toList]
  refine wpAny_forIn_list _ (fun l r s' => (r.1 = none ∧ s' = s) ∧ ∀ u ∈ l, carriedByValue u = true) _ ?_ ?_ _ _ ⟨⟨rfl, rfl⟩, hi.byValue⟩
  · rintro u l r s' ⟨⟨hr, rfl⟩, al⟩
    rw [(plain_val (al u List.mem_cons_self) _).1]
    refine wpAny_bind (wpAny_pure ?_)
    exact wpAny_pure ⟨⟨rfl, rfl⟩, fun v hv => al v (List.mem_cons_of_mem _ hv)⟩
  · rintro ⟨r1, r2⟩ s' ⟨⟨hr, rfl⟩, _⟩
    simp only at hr
    subst hr
    exact wpAny_pure h
theorem by_value {b : Addr} {Q : Bool → Shared → Prop} (z : Tk P w s.heap k b) (h : ∀ y, Q y s) : wpAny (model P w) A (hashByValue 8 (.ref b)) Q E s := by
  have hT := z.typeIs
  obtain ⟨o, its, n, ho, _, hd, hi⟩ := z
  unfold hashByValue
  refine wpAny_bind (wpAny_specialOf hT F.slot_tuple_hash.lookup ?_)
  show wpAny _ _ (seqItems? (.ref b) >>= _) _ _ s
  refine wpAny_bind (wpAny_seqItems ho hd ?_)
  refine wpAny_bind ?_
  show wpAny _ _ (forIn its _ _) _ _ s
  rw [← Array.forIn_toList]
  refine wpAny_forIn_list _ (fun l r s' => (s' = s ∧ r.1 = none) ∧ ∀ u ∈ l, carriedByValue u = true) _ ?_ ?_ _ _ ⟨⟨rfl, rfl⟩, hi.byValue⟩
  · rintro u l r s' ⟨⟨rfl, hr⟩, al⟩
    obtain ⟨y, e⟩ := (plain_val (al u List.mem_cons_self) 7).2
    rw [e]
    refine wpAny_bind (wpAny_pure ?_)
    cases y with
    | false =>
      simp only [Bool.not_false, if_true]
      exact wpAny_pure (wpAny_pure (h false))
    | true => exact wpAny_pure ⟨⟨rfl, rfl⟩, fun v hv => al v (List.mem_cons_of_mem _ hv)⟩
  · rintro ⟨r1, r2⟩ s' ⟨⟨rfl, hr⟩, _⟩
    simp only at hr
    subst hr
    exact wpAny_pure (h _)
/-- among such tuples a search is seen by none -/
theorem unseen (hx : Tk P w s.heap k x) {l : List Value} (hl : ∀ y ∈ l, ∃ k' b, y = .ref b ∧ Tk P w s.heap k' b) {Q : Bool → Shared → Prop} (h : Q false s) : wpAny (model P w) A (searchCouldBeSeen (.ref x) l) Q E s := by
  unfold searchCouldBeSeen
  refine wpAny_bind (wpAny_forIn_list _ (fun l r s' => (s' = s ∧ r.1 = none) ∧ ∀ y ∈ l, ∃ k' b, y = Value.ref b ∧ Tk P w s.heap k' b) _ ?_ ?_ _ _ ⟨⟨rfl, rfl⟩, hl⟩)
  · rintro u l r s' ⟨⟨rfl, hr⟩, al⟩
    obtain ⟨k', b, rfl, hb⟩ := al u List.mem_cons_self
    have al' := fun v hv => al v (List.mem_cons_of_mem _ hv)
    dsimp only
    by_cases c : (x == b || (carriedByValue (.ref x) && carriedByValue (.ref b))) = true
    · exact wp_if_pos c (wpAny_pure ⟨⟨rfl, rfl⟩, al'⟩)
    refine wp_if_neg c (wpAny_bind (wpAny_eqIsQuiet_tuple hx ?_))
    simp only [Bool.not_true, Bool.false_eq_true, if_false]
    refine wpAny_bind (wpAny_eqIsQuiet_tuple hb ?_)
    simp only [Bool.not_true, Bool.false_eq_true, if_false]
    refine wpAny_bind (no_class hx ?_)
    simp only [Bool.false_eq_true, if_false]
    refine wpAny_bind (no_class hb ?_)
    simp only [Bool.false_eq_true, if_false]
    exact wpAny_pure ⟨⟨rfl, rfl⟩, al'⟩
  · rintro ⟨r1, r2⟩ s' ⟨⟨rfl, hr⟩, _⟩
    simp only at hr
    subst hr
    exact wpAny_pure h
theorem Is.len (R : Is P w s.heap a L ep t) : t.place.size = L.length := by rw [R.tb.sz, List.length_map]
theorem Is.fits (R : Is P w s.heap a L ep t) : t.fits (L.map (row P w)).toArray.size = true := by
  have h1 := R.len
  have h2 := R.rm
  have h3 : (L.map (row P w)).toArray.size = L.length := by simp
  unfold SetTable.fits SetTable.fill
  rw [R.tb.dm, h3, Bool.and_eq_true, beq_iff_eq, decide_eq_true_eq]
  show t.place.size = L.length ∧ t.place.size + 0 ≤ t.mask
  omega
theorem Is.whole (R : Is P w s.heap a L ep t) : ¬ t.gaveWay = true := by
  unfold SetTable.gaveWay
  rw [mask_odd R.tb.mok]
  decide
theorem ent {i : Nat} {p : Ks × Addr} (h : L[i]? = some p) : (L.map (row P w)).toArray[i]? = some (row P w p) := by
  rw [List.getElem?_toArray, List.getElem?_map, h]
  rfl
/-- the search, from step c of the way -/
theorem seek_from (R : Is P w s.heap a L ep t) (ht : ∀ p ∈ L, Tk P w s.heap p.1 p.2) (hx : Tk P w s.heap k x) (hu : A.units < cLine) {ad : Bool} {g : Int} (eg : kh P w k = g) {K : Nat} (Kb : K < 10 * SetTable.turns t.mask) (Ko : (pr t.mask g K).j ∉ t.place.toList)
    (Ki : ∀ c, c < K → (pr t.mask g c).j ∈ t.place.toList) {Q : SetFound → Shared → Prop} (yes : (∃ p ∈ L, p.1 = k) → ∀ r : Option Nat, (ad = false → r.isSome = true) → Q (.there r) s) (no : (¬ ∃ p ∈ L, p.1 = k) → Q (.free (pr t.mask g K).j false) s) :
    ∀ (f c : Nat) (st : Option SetTable.Probe), st.getD (t.probeStart g) = pr t.mask g c → c ≤ K → K < f + c → (∀ (i : Nat) (p : Ks × Addr), L[i]? = some p → p.1 = k → ∃ d, c ≤ d ∧ d < K ∧ t.place.toList[i]? = some (pr t.mask g d).j) →
      wpAny (model P w) A (setSearchFrom a (.ref x) g ad f st) Q E s
  | 0, c, st, _, cK, fK, _ => by omega
  | f + 1, c, st, es, cK, fK, re => by
    obtain ⟨o, ho, hex, hd⟩ := R.ob
    have hsh : ∀ (i : Nat) (p : Ks × Addr), L[i]? = some p → (fun i => ((L.map (row P w)).toArray[i]?.map (·.1)).getD 0) i = kh P w p.1 := fun i p hp => by
      show ((L.map (row P w)).toArray[i]?.map (·.1)).getD 0 = _
      rw [ent hp]
      rfl
    have met := go_spec t R.tb.ris R.tb.dm (fun i => ((L.map (row P w)).toArray[i]?.map (·.1)).getD 0) g (10 * SetTable.turns t.mask) (K - c) (pr t.mask g c) (pr_dm _ _ _) (by omega)
      (fun q hq => by rw [pr_on]; exact Ki _ (by omega)) (by rw [pr_on, show c + (K - c) = K by omega]; exact Ko)
    rw [setSearchFrom_succ]
    refine wpAny_bind (wpAny_setState_of ho hd R.fits ?_)
    dsimp only
    refine wp_if_neg R.whole ?_
    try refine wpAny_bind (wpAny_pure ?_)
    rw [es]
    have prb : ∀ hf : Nat → Int, t.probe hf g (pr t.mask g c) = SetTable.probe.go t hf g (10 * SetTable.turns t.mask) (pr t.mask g c) := fun _ => rfl
    rw [prb]
    rcases met with ⟨q, i, hq, hi, hh, hno, hm⟩ | ⟨hno, hm⟩
    · rw [hm]
      dsimp only
      rw [pr_on] at hi hm ⊢
      rw [pr_on]
      have il : i < L.length := by
        have := (List.getElem?_eq_some_iff.mp hi).1
        rw [Array.length_toList, R.len] at this
        exact this
      obtain ⟨p, hp⟩ : ∃ p, L[i]? = some p := ⟨_, List.getElem?_eq_getElem il⟩
      have pm := List.mem_of_getElem? hp
      have live : t.slot (pr t.mask g (c + q)).j = .live i := slot_live R.tb.ris hi
      have rest : wpAny (model P w) A (searchRest a (.ref x) g ad f (L.map (row P w)).toArray t (pr t.mask g (c + q)).j i (pr t.mask g (c + (q + 1)))) Q E s := by
        unfold searchRest
        rw [ent hp]
        dsimp only [row]
        refine wpAny_bind (wpAny_holding (wpAny_eqBool_tuple hu (ht p pm) hx ?_))
        refine wpAny_bind (wpAny_setState_of ho hd R.fits ?_)
        dsimp only
        by_cases two : (ad && decide (p.1 = k)) = true
        · refine wp_if_pos two (wpAny_pure (yes ⟨p, pm, by simp at two; exact two.2⟩ none fun e => ?_))
          rw [e] at two
          cases two
        refine wp_if_neg two ?_
        try refine wpAny_bind (wpAny_pure ?_)
        rw [sameMem]
        dsimp only
        simp only [if_true, live]
        have e0 : (L.map (fun p => (kh P w p.1, Value.ref p.2))).toArray[i]? = some (kh P w p.1, Value.ref p.2) := ent hp
        have e1 : (L.map (row P w)).toArray[i]? = some (kh P w p.1, Value.ref p.2) := ent hp
        first | rw [e1] | rw [e0]
        refine wpAny_bind (wpAny_isSame_ref_self (wpAny_bind (wpAny_pure ?_)))
        simp only [if_true]
        by_cases e : p.1 = k
        · exact wp_if_pos (decide_eq_true e) (wpAny_pure (yes ⟨p, pm, e⟩ (some i) fun _ => rfl))
        refine wp_if_neg (by simp [e]) (seek_from R ht hx hu eg Kb Ko Ki yes no f (c + (q + 1)) _ rfl (by omega) (by omega) fun i0 p0 h0 k0 => ?_)
        obtain ⟨d, d1, d2, d3⟩ := re i0 p0 h0 k0
        have far : c + q ≤ d := by
          rcases Nat.lt_or_ge d (c + q) with z | z
          · exact absurd ((hsh i0 p0 h0).trans ((congrArg (kh P w) k0).trans eg)) (hno (d - c) i0 (by omega) (by rw [pr_on, show c + (d - c) = d by omega]; exact d3))
          · exact z
        have nq : d ≠ c + q := fun z => by
          rw [z] at d3
          have y := slot_live R.tb.ris d3
          rw [live] at y
          injection y with y
          rw [← y, hp] at h0
          injection h0 with h0
          exact e (h0 ▸ k0)
        exact ⟨d, by omega, d2, d3⟩
      by_cases ld : t.led = true
      · refine wp_if_neg (by simp [ld]) ?_
        try refine wpAny_bind (wpAny_pure ?_)
        exact rest
      · refine wp_if_pos (by simp [ld]) (wpAny_bind (unseen hx (fun y hy => ?_) (wp_if_neg (by decide) ?_)))
        · obtain ⟨e, he, rfl⟩ := List.mem_map.mp hy
          have he : e ∈ (L.map (row P w)).toArray ∧ e.1 = g := by simpa using he
          obtain ⟨p2, hp2, rfl⟩ := List.mem_map.mp (List.mem_toArray.mp he.1)
          exact ⟨p2.1, p2.2, rfl, ht p2 hp2⟩
        · try refine wpAny_bind (wpAny_pure ?_)
          exact rest
    · rw [hm]
      dsimp only
      rw [pr_on, show c + (K - c) = K by omega]
      refine wpAny_pure (no ?_)
      rintro ⟨p0, h0, k0⟩
      obtain ⟨i0, hi0⟩ := List.mem_iff_getElem?.mp h0
      obtain ⟨d, d1, d2, d3⟩ := re i0 p0 hi0 k0
      exact hno (d - c) i0 (by omega) (by rw [pr_on, show c + (d - c) = d by omega]; exact d3) ((hsh i0 p0 hi0).trans ((congrArg (kh P w) k0).trans eg))
theorem Is.small (R : Is P w s.heap a L ep t) : 10 * SetTable.turns t.mask ≤ 100000 := by
  unfold SetTable.turns
  have := R.rm
  omega
/-- the search -/
theorem seek (R : Is P w s.heap a L ep t) (ht : ∀ p ∈ L, Tk P w s.heap p.1 p.2) (hx : Tk P w s.heap k x) (hu : A.units < cLine) {ad : Bool} {Q : SetFound → Shared → Prop} (yes : (∃ p ∈ L, p.1 = k) → ∀ r : Option Nat, (ad = false → r.isSome = true) → Q (.there r) s)
    (no : ∀ K, (¬ ∃ p ∈ L, p.1 = k) → way t.mask (kh P w k) K ∉ t.place.toList → (∀ c, c < K → way t.mask (kh P w k) c ∈ t.place.toList) → Q (.free (way t.mask (kh P w k) K) false) s) : wpAny (model P w) A (setSearch a (.ref x) (kh P w k) ad) Q E s := by
  have rm := R.rm
  obtain ⟨K, k1, k2, k3⟩ := R.tb.first (by rw [List.length_map]; omega) (kh P w k)
  have sm := R.small
  refine seek_from R ht hx hu rfl k1 k2 k3 yes (fun n => no K n k2 k3) 100000 0 none rfl (Nat.zero_le _) (by omega) fun i p hp e => ?_
  have il : i < t.place.toList.length := by
    rw [Array.length_toList, R.len]
    exact (List.getElem?_eq_some_iff.mp hp).1
  obtain ⟨c, hc, e2⟩ := R.tb.before (i := i) k2 (by rw [List.getElem?_map, hp, ← e]; rfl) (List.getElem?_eq_getElem il)
  exact ⟨c, Nat.zero_le _, hc, by rw [List.getElem?_eq_getElem il, ← e2]; rfl⟩
theorem Tk.same {h h' : Heap} {b : Addr} {o : Obj} {es : Array (Int × Value)} (z : Tk P w h k b) (ho : h.get? a = some o) (hd : o.data = .set es ep t) (sb : Heap.SameBut a h h') : Tk P w h' k b := by
  obtain ⟨o', its, n, ho', hc, hd', hi⟩ := z
  refine ⟨o', its, n, (sb.2 b fun e => ?_).trans ho', hc, hd', hi⟩
  rw [e, ho] at ho'
  injection ho' with ho'
  rw [ho', hd'] at hd
  cases hd
theorem picks : ∀ l : List Nat, (∀ i ∈ l, i < L.length) → (l.filterMap fun i => L[i]?).length = l.length ∧ ((l.filterMap fun i => L[i]?).map fun p => kh P w p.1) = l.map fun i => ((L.map (row P w)).toArray.map (·.1)).getD i 0
  | [], _ => ⟨rfl, rfl⟩
  | i :: l, h => by
    have hi := h i List.mem_cons_self
    obtain ⟨h1, h2⟩ := picks l fun j hj => h j (List.mem_cons_of_mem _ hj)
    have e := List.getElem?_eq_getElem hi
    rw [List.filterMap_cons_some e]
    refine ⟨congrArg Nat.succ h1, ?_⟩
    rw [List.map_cons, List.map_cons, h2]
    congr 1
    have q : ((L.map (row P w)).toArray.map (·.1))[i]? = some (kh P w (L[i]).1) := by
      rw [Array.getElem?_map, ent e]
      rfl
    rw [Array.getD_eq_getD_getElem?, q]
    rfl
/-- what an added tuple leaves -/
theorem relay {o : Obj} (ho : s.heap.get? a = some o) (hex : o.ExactSet) (hd : o.data = .set (L.map (row P w)).toArray ep t) (tb : TabOk t (L.map fun p => kh P w p.1)) (l5 : L.length = 5) (m7 : t.mask = 7) (ht : ∀ p ∈ L, Tk P w s.heap p.1 p.2) {Q : Unit → Shared → Prop}
    (hQ : ∀ h' L' ep' t', Heap.SameBut a s.heap h' → Is P w h' a L' ep' t' → L'.length = L.length → (∀ p, p ∈ L' ↔ p ∈ L) → Q () { s with heap := h' }) : wpAny (model P w) A (setRelay a (SetTable.grown 5)) Q E s := by
  have sz : (L.map (row P w)).toArray.size = L.length := by simp
  have len : t.place.size = L.length := by rw [tb.sz, List.length_map]
  have fit : t.fits (L.map (row P w)).toArray.size = true := by
    unfold SetTable.fits SetTable.fill
    rw [tb.dm, sz, Bool.and_eq_true, beq_iff_eq, decide_eq_true_eq]
    show t.place.size = L.length ∧ t.place.size + 0 ≤ t.mask
    omega
  obtain ⟨t', od, e1, pm, T, em, _⟩ := relaid_ok t (hs := (L.map (row P w)).toArray.map (·.1)) (wanted := SetTable.grown 5) (M := 31) (by rw [size_20]) (.inr (.inl rfl)) (by rw [Array.size_map, sz]; omega)
  rw [Array.size_map, sz] at pm
  have bd : ∀ i ∈ od.toList, i < L.length := fun i hi => List.mem_range.mp (pm.mem_iff.mp hi)
  obtain ⟨p1, p2⟩ := picks (P := P) (w := w) (L := L) od.toList bd
  have lo : od.toList.length = L.length := by rw [pm.length_eq, List.length_range]
  have eo : od.filterMap ((L.map (row P w)).toArray[·]?) = ((od.toList.filterMap fun i => L[i]?).map (row P w)).toArray := by
    apply Array.ext'
    rw [Array.toList_filterMap, List.map_filterMap]
    congr 1
    funext i
    rw [List.getElem?_toArray, List.getElem?_map]
  rw [setRelay_eq]
  refine wpAny_bind (wpAny_setState_of ho hd fit ?_)
  dsimp only
  refine wp_if_neg (by rw [sizeLine_eq, size_20]; decide) ?_
  try refine wpAny_bind (wpAny_pure ?_)
  rw [e1]
  dsimp only
  rw [eo]
  refine wpAny_bind (wp_if_neg (by rw [sz]; simp; omega) ?_)
  try refine wpAny_bind (wpAny_pure ?_)
  refine wpAny_pure ?_
  dsimp only
  refine wpAny_storeSet_of ho hd ?_ (by rw [sizeLine_eq]; simp; omega)
  refine hQ _ (od.toList.filterMap fun i => L[i]?) (ep + 1) t' (Heap.SameBut.update ..) ⟨⟨_, store_at ho hd, ⟨hex.1, hex.2.1, hex.2.2⟩, rfl⟩, by rw [p2]; exact T, .inr ⟨em, by omega⟩⟩ (by omega) fun p => ?_
  rw [List.mem_filterMap]
  constructor
  · rintro ⟨i, _, e⟩
    exact List.mem_of_getElem? e
  · intro h
    obtain ⟨i, hi⟩ := List.mem_iff_getElem?.mp h
    exact ⟨i, pm.mem_iff.mpr (List.mem_range.mpr (List.getElem?_eq_some_iff.mp hi).1), hi⟩
/-- a tuple that isn't there is added -/
theorem add_new (R : Is P w s.heap a L ep t) (ht : ∀ p ∈ L, Tk P w s.heap p.1 p.2) (hx : Tk P w s.heap k x) (hu : A.units < cLine) (nk : ¬ ∃ p ∈ L, p.1 = k) (few : L.length < 18) {Q : Bool → Shared → Prop}
    (hQ : ∀ h' L' ep' t', Heap.SameBut a s.heap h' → Is P w h' a L' ep' t' → L'.length = L.length + 1 → (∀ p, p ∈ L' ↔ p = (k, x) ∨ p ∈ L) → Q true { s with heap := h' }) : wpAny (model P w) A (setAddHashed a (.ref x) (kh P w k)) Q E s := by
  obtain ⟨o, ho, hex, hd⟩ := R.ob
  have rm := R.rm
  unfold setAddHashed
  refine wpAny_holding ?_
  rw [show (100000 : Nat) = 99999 + 1 from rfl, setAddHashedIn_succ]
  refine wpAny_bind (wpAny_setState_of ho hd R.fits ?_)
  dsimp only
  refine wp_if_neg (by simp [byScan, Value.scannable]) ?_
  try refine wpAny_bind (wpAny_pure ?_)
  refine wpAny_bind (seek R ht hx hu (fun y => absurd y nk) fun K _ Ko Ki => ?_)
  dsimp only
  refine wpAny_bind (wpAny_setState_of ho hd R.fits ?_)
  dsimp only
  obtain ⟨q1, q2, q3, q4, _, _, _, _, q9⟩ := R.tb.put Ko Ki
  rw [List.length_map] at q2 q9
  generalize hpt : t.put (way t.mask (kh P w k) K) = pt at q1 q3 q4 q9 ⊢
  obtain ⟨t1, j⟩ := pt
  dsimp only at q1 q3 q4 q9 ⊢
  subst q1
  generalize SetTable.below t.place (way t.mask (kh P w k) K) = j at q2 q3 ⊢
  have ei : SetTable.insertAt (L.map (row P w)).toArray j (kh P w k, Value.ref x) = ((L.take j ++ (k, x) :: L.drop j).map (row P w)).toArray := by
    apply Array.ext'
    rw [SetTable.toList_insertAt, List.map_append, List.map_cons, List.map_take, List.map_drop]
    rfl
  have eh : ((L.map fun p => kh P w p.1).take j ++ kh P w k :: (L.map fun p => kh P w p.1).drop j) = (L.take j ++ (k, x) :: L.drop j).map fun p => kh P w p.1 := by
    rw [List.map_append, List.map_cons, List.map_take, List.map_drop]
  rw [eh] at q3
  rw [ei]
  have mem : ∀ p, p ∈ L.take j ++ (k, x) :: L.drop j ↔ p = (k, x) ∨ p ∈ L := fun p => by
    constructor
    · intro h
      rcases List.mem_append.mp h with h | h
      · exact .inr (List.mem_of_mem_take h)
      · rcases List.mem_cons.mp h with h | h
        · exact .inl h
        · exact .inr (List.mem_of_mem_drop h)
    · rintro (rfl | h)
      · exact List.mem_append_right _ List.mem_cons_self
      · rw [← List.take_append_drop j L] at h
        rcases List.mem_append.mp h with h | h
        · exact List.mem_append_left _ h
        · exact List.mem_append_right _ (List.mem_cons_of_mem _ h)
  have len : (L.take j ++ (k, x) :: L.drop j).length = L.length + 1 := by
    rw [List.length_append, List.length_cons, List.length_take, List.length_drop]
    omega
  generalize L.take j ++ (k, x) :: L.drop j = L1 at q3 mem len ⊢
  -- whatever hashByValue says
  have go : ∀ t2 : SetTable, t2.place = t1.place → t2.dummies = t1.dummies → t2.mask = t1.mask → wpAny (model P w) A (do
      storeSet a (L1.map (row P w)).toArray t2
      if (!false && t2.tooFull) = true then do
        setRelay a (SetTable.grown ((L.map (row P w)).toArray.size + 1))
        pure true
      else pure true) Q E s := fun t2 e1 e2 e3 => by
    have T2 : TabOk t2 (L1.map fun p => kh P w p.1) := ⟨by rw [e1]; exact q3.ris, by rw [e2]; exact q3.dm, by rw [e1]; exact q3.sz, by rw [e3]; exact q3.mok, by rw [e1, e3]; exact q3.bd, by rw [e1, e3]; exact q3.reach⟩
    have fl : t2.fill = L.length + 1 := by
      rw [← q9]
      unfold SetTable.fill
      rw [e1, e2]
    refine wpAny_bind (wpAny_storeSet_of ho hd ?_ (by rw [sizeLine_eq]; simp; omega))
    have sb : Heap.SameBut a s.heap (s.heap.update a (Obj.putSet (L1.map (row P w)).toArray t2)) := Heap.SameBut.update ..
    have ho1 := store_at (es' := (L1.map (row P w)).toArray) (t' := t2) ho hd
    generalize s.heap.update a (Obj.putSet (L1.map (row P w)).toArray t2) = h1 at sb ho1 ⊢
    have full : t2.tooFull = true ↔ (L.length + 1) * 5 ≥ t2.mask * 3 := by
      unfold SetTable.tooFull
      rw [decide_eq_true_eq, fl]
    by_cases f : t2.tooFull = true
    · refine wp_if_pos (by simp [f]) (wpAny_bind ?_)
      have l4 : L.length = 4 ∧ t.mask = 7 := by
        have := full.mp f
        rw [e3, q4] at this
        omega
      have es : (L.map (row P w)).toArray.size + 1 = 5 := by simp [l4.1]
      rw [es]
      refine relay (s := { s with heap := h1 }) ho1 ⟨hex.1, hex.2.1, hex.2.2⟩ rfl T2 (by omega) (by rw [e3, q4]; exact l4.2) (fun p hp => ?_) fun h2 L2 ep2 t3 sb2 R2 l2 m2 => wpAny_pure (hQ h2 L2 ep2 t3 (sb.trans sb2) R2 (by omega) fun p => by rw [m2, mem])
      rcases (mem p).mp hp with rfl | hp
      · exact Tk.same hx ho hd sb
      · exact Tk.same (ht p hp) ho hd sb
    · refine wp_if_neg (by simp [f]) (wpAny_pure (hQ h1 L1 (ep + 1) t2 sb ⟨⟨_, ho1, ⟨hex.1, hex.2.1, hex.2.2⟩, rfl⟩, T2, ?_⟩ len mem))
      have : ¬ ((L.length + 1) * 5 ≥ t2.mask * 3) := fun h => f (full.mpr h)
      rw [e3, q4] at this ⊢
      omega
  by_cases tp : t1.plain = true
  · refine wp_if_pos tp (wpAny_bind (by_value hx fun y => ?_))
    cases y
    · exact go { t1 with plain := false } rfl rfl rfl
    · exact go t1 rfl rfl rfl
  · refine wp_if_neg tp (wpAny_bind (wpAny_pure ?_))
    exact go t1 rfl rfl rfl
/-- key in set -/
theorem holds (R : Is P w s.heap a L ep t) (ht : ∀ p ∈ L, Tk P w s.heap p.1 p.2) (hx : Tk P w s.heap k x) (hu : A.units + 2 < cLine) {Q : Bool → Shared → Prop} (y : Bool) (hy : y = true ↔ ∃ p ∈ L, p.1 = k)
    (h : Q y { s with toks := s.toks + (k.length + 1) }) : wpAny (model P w) A (contains (.ref a) (.ref x)) Q E s := by
  obtain ⟨o, ho, hex, hd⟩ := R.ob
  have hT : s.TypeIs (.ref a) "set" := ⟨o, ho, hex.1⟩
  unfold contains
  try with_reducible refine wpAny_holding ?_
  refine wpAny_bind (wpAny_specialOf hT F.slot_set_contains.lookup ?_)
  show wpAny _ _ (if (some (Value.builtin "set.__contains__") == some Value.none) = true then _ else _) _ E s
  refine wp_if_neg (by rw [beq_builtin_none]; exact Bool.false_ne_true) (wpAny_bind (wpAny_callSpecialUnlessNone?_slot (name := Str.ofString "__contains__") hT F.slot_set_contains (wpAny_call_entry F.slot_set_contains hT entry_set_contains ?_ (F.args_set_contains_2 _ _))))
  unfold Builtin.«frozenset.__contains__» Builtin.Frozenset.oneOther Builtin.Frozenset.addrOf Builtin.Frozenset.withSetAsKey setContains
  simp only [List.isEmpty_nil, bind_assoc]
  refine wpAny_bind (wpAny_pure ?_)
  try dsimp only
  refine wpAny_bind (wpAny_pure ?_)
  try dsimp only
  refine wpAny_bind (wpAny_tryCatch (wpAny_holding (wpAny_bind (wpAny_pyHash_tuple (knd := mixKind P w) (by first | exact Nat.lt_of_succ_lt hu | (show A.units + 1 < cLine; omega)) hx ?_))))
  unfold setFind
  have find : ∀ (s' : Shared) {A' : Around} {E' : Value → Shared → Prop} {Q' : Option Nat → Shared → Prop}, s'.heap = s.heap → A'.units < cLine → (∀ r, r.isSome = y → Q' r s') → wpAny (model P w) A' (setFindIn a (.ref x) (kh P w k) 100000) Q' E' s' := fun s' A' E' Q' es hu' q => by
    have R' : Is P w s'.heap a L ep t := by rw [es]; exact R
    have ht' : ∀ p ∈ L, Tk P w s'.heap p.1 p.2 := by rw [es]; exact ht
    have hx' : Tk P w s'.heap k x := by rw [es]; exact hx
    rw [show (100000 : Nat) = 99999 + 1 from rfl]
    unfold setFindIn
    refine wpAny_bind (wpAny_setState_of (by rw [es]; exact ho) hd R.fits ?_)
    dsimp only
    refine wp_if_neg (by simp [byScan, Value.scannable]) ?_
    try refine wpAny_bind (wpAny_pure ?_)
    refine wpAny_bind (seek R' ht' hx' hu' (fun z r hr => ?_) fun K z _ _ => ?_)
    · exact wpAny_pure (q r ((hr rfl).trans (hy.mpr z).symm))
    · refine wpAny_pure (q none ?_)
      cases y with
      | false => rfl
      | true => exact absurd (hy.mp rfl) z
  refine wpAny_bind (find _ rfl (by first | exact Nat.lt_of_succ_lt hu | (show A.units + 1 < cLine; omega)) fun r hr => ?_)
  refine wpAny_pure ?_
  show wpAny _ _ (ret (Value.bool r.isSome)) _ _ _
  rw [hr]
  exact wpAny_pure ⟨_, rfl, wpAny_truthy_bool h⟩
end
/-- the set's own object among what is tracked -/
def O (P : Program) (w : World) (a : Addr) (L : List (Ks × Addr)) : HO := .ext fun h => ∃ ep t, Is P w h a L ep t
theorem ok_O {P : Program} {w : World} {H : Hp} {h : Heap} {a : Addr} {L : List (Ks × Addr)} {ep : Nat} {t : SetTable} (R : Is P w h a L ep t) : ObjOk P w H h a (O P w a L) := by
  obtain ⟨o, ho, r⟩ := R.ob
  refine ⟨⟨ep, t, R⟩, ⟨o, ho⟩, fun h1 h2 ⟨ep', t', ⟨⟨o', g, r'⟩, tb, rm⟩⟩ k => ⟨ep', t', ⟨⟨o', k _ g, r'⟩, tb, rm⟩⟩⟩
/-- the set at a holds the tuples S -/
def At (P : Program) (w : World) (H : Hp) (a : Addr) (S : List Ks) : Prop := ∃ L, H a = some (O P w a L) ∧ (∀ p ∈ L, H p.2 = some (.tup (p.1.map kV))) ∧ L.length = S.length ∧ ∀ k, k ∈ S ↔ ∃ p ∈ L, p.1 = k
theorem At.keep {P : Program} {w : World} {H H' : Hp} {a : Addr} {S : List Ks} (z : At P w H a S) (ht : ∀ b ys, H b = some (.tup ys) → H' b = some (.tup ys)) (ha : H' a = H a) : At P w H' a S := by
  obtain ⟨L, h1, h2, h3⟩ := z
  exact ⟨L, by rw [ha]; exact h1, fun p hp => ht _ _ (h2 p hp), h3⟩
/-- set() -/
def rNew (P : Program) (w : World) : List V → Hp → VK → Prop := fun xs H Q => xs = [] ∧ ∀ p, H p = none → At P w (upd H p (O P w p [])) p [] → Q (.ref p) (upd H p (O P w p []))
def tAdd (P : Program) (w : World) (to : TE) (ta : TA) : TE := fun σ H Q => to σ H fun x H1 => (∃ a S, x = .ref a ∧ At P w H1 a S) ∧ ta σ H1 fun xs H2 => ∃ (a b : Addr) (k : Ks) (S : List Ks), x = .ref a ∧ xs = [.ref b] ∧ At P w H2 a S ∧ H2 b = some (.tup (k.map kV)) ∧ k ∉ S ∧ S.length < 18 ∧
  ∀ H', (∀ c, c ≠ a → H' c = H2 c) → At P w H' a (k :: S) → Q .non H'
def rIn (P : Program) (w : World) (neg : Bool) : V → V → Hp → VK → Prop := fun x y H Q => ∃ (a b : Addr) (k : Ks) (S : List Ks), x = .ref b ∧ y = .ref a ∧ At P w H a S ∧ H b = some (.tup (k.map kV)) ∧ ∀ y : Bool, (y = true ↔ k ∈ S) → Q (.bl (if neg then !y else y)) H
section
variable {X : Cx}
theorem cr_new : CallR X (.type "set") (rNew X.prog X.w) := by
  intro pins s σ H xs us Q I r h
  obtain ⟨rfl, q⟩ := h
  cases r
  refine setR_new fun _ => ?_
  have hn : H s.heap.objs.size = none := I.hok.fresh (Nat.le_refl _)
  have R : Is X.prog X.w (s.heap.push { cls := .type "set", dict := none, data := .set #[] 0 (.fresh 0 0 (!X.w.params.followText "set-order")) }) s.heap.objs.size [] 0 (.fresh 0 0 (!X.w.params.followText "set-order")) :=
    ⟨⟨_, Heap.get?_push_size _ rfl, ⟨rfl, rfl, rfl⟩, rfl⟩, ⟨List.Pairwise.nil, rfl, rfl, .inl rfl, (fun y hy => nomatch hy), fun i g j hi => by simp at hi⟩, .inl ⟨rfl, Nat.zero_le _⟩⟩
  exact ⟨.ref _, upd H s.heap.objs.size (O X.prog X.w s.heap.objs.size []), I.laid (t' := s.toks) (fun b u e => Heap.get?_push_of_some _ e) (Nat.le_refl _) (ok_O R), rfl, q _ hn ⟨[], upd_same, fun p hp => (nomatch hp), rfl, fun k => ⟨fun h => (nomatch h), fun ⟨p, hp, _⟩ => nomatch hp⟩⟩⟩
theorem rd {pins : List (Addr × Obj)} {σ : St} {H : Hp} {s : Shared} {a : Addr} {L : List (Ks × Addr)} (I : Inv X pins σ H s) (ha : H a = some (O X.prog X.w a L)) (ht : ∀ p ∈ L, H p.2 = some (.tup (p.1.map kV))) : (∃ ep t, Is X.prog X.w s.heap a L ep t) ∧ ∀ p ∈ L, Tk X.prog X.w s.heap p.1 p.2 :=
  ⟨(I.hok a _ ha).1, fun p hp => key_of I.hok (ht p hp)⟩
open Classical in
theorem con {pins : List (Addr × Obj)} {σ : St} {H : Hp} {s : Shared} {a b : Addr} {k : Ks} {S : List Ks} {E : Value → Shared → Prop} {Q : Bool → Shared → Prop} (hu : X.A.units + 2 < cLine) (I : Inv X pins σ H s) (ha : At X.prog X.w H a S) (hb : H b = some (.tup (k.map kV)))
    (h : ∀ y t', (y = true ↔ k ∈ S) → Q y { s with toks := t' }) : wpAny (model X.prog X.w) X.A (contains (.ref a) (.ref b)) Q E s := by
  obtain ⟨L, h1, h2, _, h3⟩ := ha
  obtain ⟨⟨ep, t, R⟩, ht⟩ := rd I h1 h2
  exact holds R ht (key_of I.hok hb) hu (decide (k ∈ S)) (by rw [decide_eq_true_eq]; exact h3 k) (h _ _ (by rw [decide_eq_true_eq]))
theorem or_in (hu : X.A.units + 2 < cLine) : OpR X (compareOp .In) (rIn X.prog X.w false) := by
  intro pins s σ H x y u v Q I rx ry h
  obtain ⟨a, b, k, S, rfl, rfl, ha, hb, q⟩ := h
  cases rx
  cases ry
  show wpAny _ _ (contains (.ref a) (.ref b) >>= fun z => pure (Value.bool z)) _ _ s
  exact wpAny_bind (con hu I ha hb fun z t' e => wpAny_pure ⟨.bl z, H, I.tok _, rfl, q z e⟩)
theorem ad {pins : List (Addr × Obj)} {σ : St} {H : Hp} {s : Shared} {a b : Addr} {k : Ks} {S : List Ks} {E : Value → Shared → Prop} {Q : Value → Shared → Prop} (hu : X.A.units + 2 < cLine) (I : Inv X pins σ H s) (ha : At X.prog X.w H a S) (hb : H b = some (.tup (k.map kV))) (nk : k ∉ S) (few : S.length < 18)
    (h : ∀ H' s', (∀ c, c ≠ a → H' c = H c) → At X.prog X.w H' a (k :: S) → Inv X pins σ H' s' → Q .none s') : wpAny (model X.prog X.w) X.A (call (.builtin "set.add") [.ref a, .ref b]) Q E s := by
  obtain ⟨L, h1, h2, h4, h3⟩ := ha
  obtain ⟨⟨ep, t, R⟩, ht⟩ := rd I h1 h2
  have hx := key_of I.hok hb
  have hT : s.TypeIs (.ref a) "set" := let ⟨o, ho, hex, _⟩ := R.ob; ⟨o, ho, hex.1⟩
  refine wpAny_call_entry F.slot_set_add hT F.entry_set_add ?_ (F.args_set_add_2 _ _)
  unfold Builtin.«set.add» Builtin.Frozenset.oneOther Builtin.Frozenset.addrOf setAdd
  simp only [List.isEmpty_nil, bind_assoc]
  refine wpAny_bind (wpAny_pure ?_)
  try dsimp only
  refine wpAny_bind (wpAny_pure ?_)
  try dsimp only
  refine wpAny_bind (wpAny_holding (wpAny_bind (wpAny_pyHash_tuple (knd := mixKind X.prog X.w) (by first | exact Nat.lt_of_succ_lt hu | (show X.A.units + 1 < cLine; omega)) hx ?_)))
  refine add_new (s := { s with toks := s.toks + (k.length + 1) }) (show Is X.prog X.w s.heap a L ep t from R) ht hx (by first | exact Nat.lt_of_succ_lt hu | (show X.A.units + 1 < cLine; omega)) (fun z => nk ((h3 k).mpr z)) (by omega) fun h' L' ep' t' sb R' l' m' => ?_
  show wpAny _ _ (ret Value.none) _ _ _
  have ot : ∀ c, c ≠ a → upd H a (O X.prog X.w a L') c = H c := fun c hc => upd_ne hc
  have nb : ∀ c ys, H c = some (.tup ys) → c ≠ a := fun c ys hc e => by
    rw [e, h1] at hc
    cases hc
  have old : ∀ p ∈ L', H p.2 = some (.tup (p.1.map kV)) := fun p hp => by
    rcases (m' p).mp hp with rfl | hp
    · exact hb
    · exact h2 p hp
  refine wpAny_pure ⟨_, rfl, h (upd H a (O X.prog X.w a L')) _ ot ⟨L', upd_same, fun p hp => (ot _ (nb _ _ (old p hp))).trans (old p hp), by rw [l', h4]; rfl, fun l => ?_⟩ (I.write (e := a) (t' := s.toks + (k.length + 1)) (by rw [h1]; trivial) (.inl rfl) (fun c u hc hu' => (sb.2 c hc).trans hu') (let ⟨o, ho, _⟩ := R'.ob; ⟨o, ho⟩) (ok_O R'))⟩
  rw [List.mem_cons, h3 l]
  constructor
  · rintro (e | ⟨p, hp, e⟩)
    · exact ⟨(k, b), (m' _).mpr (.inl rfl), e.symm⟩
    · exact ⟨p, (m' _).mpr (.inr hp), e⟩
  · rintro ⟨p, hp, e⟩
    rcases (m' p).mp hp with rfl | hp
    · exact .inl e.symm
    · exact .inr ⟨p, hp, e⟩
variable {o e : Expr} {es : List Expr} {to : TE} {t : TA} {apos cpos : Pos}
theorem pe_addP (hu : X.A.units + 2 < cLine) (ho : PE X o to) (ha : PA X (e :: es) t) (c1 : attributeBase o "add" X.env (eval o X.env) = eval o X.env := by rfl)
    (c2 : ((backTo cpos (starEach (e :: es) X.env)).all (fun x => !x.1) && (backToKw cpos (keywordEach [] X.env)).all (fun x => x.1.isSome) && decide ((e :: es).length + ([] : List Keyword).length + (if ([] : List Keyword).isEmpty then 0 else 1) < 30)) = true := by rfl)
    (c3 : (apos.endLine == cpos.line) = true := by rfl) (c4 : starEach (e :: es) X.env = (false, eval e X.env) :: starEach es X.env := by rfl) (c5 : (backTo cpos (starEach es X.env)).any (·.1) = false := by rfl) : PE X (.Call (.Attribute o "add" apos) (e :: es) [] cpos) (tAdd X.prog X.w to t) := by
  refine ⟨fun pins s σ H Q I h => wpAny_Call_method_late c1 c2 c3 rfl (thn (ho.run pins s σ H _ I h) fun v s1 ⟨x, H1, I1, r1, ⟨a, S, ex, hA⟩, q1⟩ => ?_)⟩
  subst ex
  cases r1
  obtain ⟨L, h1, h2, _, _⟩ := hA
  obtain ⟨⟨ep, tb, R⟩, _⟩ := rd I1 h1 h2
  obtain ⟨ob, hob, hex, _⟩ := R.ob
  refine ⟨"set", "set.add", F.plainAttrs_set, F.slot_set_add, F.type_set_add, ⟨ob, hob, hex.1⟩, fun b e => by injection e with e; subst e; exact ⟨ob, hob, hex.2.1⟩, ?_⟩
  have hR := ha.run cpos pins s1 σ H1 _ I1 q1
  rw [c4] at hR ⊢
  refine Calls.callWith_builtin (by show (false || (backTo cpos (starEach es X.env)).any (·.1)) = false; rw [c5]; rfl) (Calls.evalArgs_plain (thn hR fun us s2 ⟨vs, H2, I2, r2, a', b, k, S', ea, ev, g1, g2, g3, g4, q2⟩ => ?_))
  subst ev
  injection ea with ea
  subst ea
  cases r2 with
  | cons r3 r4 =>
    cases r4
    cases r3
    exact ad hu I2 g1 g2 g3 g4 fun H' s' f g I' => ⟨.non, H', I', rfl, q2 H' f g⟩
end
end KSet
end L2
end
section
set_option Elab.async false
set_option linter.all false
set_option maxRecDepth 100000
set_option maxHeartbeats 4000000
namespace Sh
open PySem PySem.Spec PyProof.Rows L2
open C8 (pss_cut tCut)
open Evl (ixN_nat)
structure Bp (mg : Str → Option Value) : Prop extends Bk mg where
  c_MOST_PRICE : ∃ t, mg "MOST_PRICE" = some (.int 1000 t)
  b_reversed : mg "reversed" = none
  b_min : mg "min" = none
theorem hu2p_of {A : Around} {k : Nat} (hr : Room k A) : A.units + 2 < cLine := Nat.lt_of_le_of_lt (Nat.add_le_add_left (by decide : 2 ≤ 64) _) hr.units
def ipF (e : Int) : List (Str × V) := xfs ["place"] [.int e] []
def ipP : List V → Prop := fun vs => ∃ i : Int, vs = [.int i] ∧ -1 ≤ i ∧ i ≤ 10000
structure XP (P : Program) (w : World) (K : PySem.W.Frag) (mg : Str → Option Value) (A : XA) (AI : Addr) : Prop where
  xs : XS P w K mg A
  xI : PySem.SupX.SupCls P w K mg "InvalidPrices" AI ["place"] ipP
/-- what is wanted where InvalidPrices(e) is raised -/
def RzP (AI : Addr) (E : XK) (H : Hp) (e : Int) : Prop := ∀ H' d, Same H H' → H' d = none → E (.ref AI) (some d) (upd H' d (.xd (ipF e)))
theorem RzP.same {AI : Addr} {E : XK} {H H1 : Hp} {e : Int} (h : RzP AI E H e) (s : Same H H1) : RzP AI E H1 e := fun H' d s' hd => h H' d (s.trans s') hd
def spIsPr : Sp := fun vs H Q _ => ∃ n : Int, vs = [.int n] ∧ Q (.bl (decide (0 ≤ n ∧ n ≤ 1000))) H
def spChkSw (C AI : Addr) : Sp := fun vs H Q E => ∃ (b q : Addr) (us : List Addr) (rows : List Row) (sws : List Swap), vs = [.ref b, .ref q] ∧ BedAt C H b rows ∧ ROk 4 rows ∧ H q = some (.tup (us.map V.ref)) ∧ PlAt swV H us sws ∧ sws.length ≤ 6 ∧
  (∀ i p, sws[i]? = some p → GoodB rows sws i → ¬ GoodQ rows (sws.take i) p → RzP AI E H (i : Nat)) ∧ (GoodB rows sws sws.length → ∀ H', Same H H' → Q .non H')
def ck (p : Str × Str) : List Key := [.inr p.1, .inr p.2]
theorem ck_inj {p q : Str × Str} (h : ck p = ck q) : p = q := by
  obtain ⟨a, b⟩ := p
  obtain ⟨c, d⟩ := q
  unfold ck at h
  injection h with h1 h2
  injection h2 with h2 _
  injection h1 with h1
  injection h2 with h2
  exact Prod.ext h1 h2
theorem mem_ck {l : List (Str × Str)} {p : Str × Str} : ck p ∈ l.map ck ↔ p ∈ l := by
  rw [List.mem_map]
  exact ⟨fun ⟨q, hq, e⟩ => ck_inj e ▸ hq, fun h => ⟨p, h, rfl⟩⟩
abbrev N_is_price : List Str := ["number"]
theorem sc_is_price : FnScope N_is_price ["number"] (defScope s_is_price) := ⟨rfl, rfl, rfl, by decide +kernel, rfl, by decide +kernel, by decide +kernel⟩
abbrev N_check_swaps : List Str := ["bed", "swaps", "seen", "place", "kind", "other", "cost"]
theorem sc_check_swaps : FnScope N_check_swaps ["bed", "swaps"] (defScope s_check_swaps) := ⟨rfl, rfl, rfl, by decide +kernel, rfl, by decide +kernel, by decide +kernel⟩
section
variable {P : Program} {w : World} {K : PySem.W.Frag} {mg : Str → Option Value} {base : Heap} {C AI : Addr} {A : XA}
theorem ok_ispr (T : Bp mg) (D : Def0 K mg "is_price" s_is_price) : DefOk P w K mg base CX0 1 "is_price" spIsPr := by
  refine D.ok sc_is_price (fun vs H Q E h => ?_) (fun _ _ _ _ _ _ us hl => match us, hl with | [_], _ => rfl) (fun f cdv A outer s H vs Q E hr h => ?_)
  · obtain ⟨n, rfl, _⟩ := h
    rfl
  · obtain ⟨n, rfl, k⟩ := h
    refine ⟨_, (pss_one (ps_ret (pe_chain op_le op_le pe_int (pv 0) (pe_cI (by rfl) T.c_MOST_PRICE)))), ?_⟩
    refine ⟨_, rfl, _, _, rfl, rfl, _, rfl, ite2 (fun c => ⟨_, _, rfl, rfl, ?_⟩) (fun c => ?_)⟩
    · have h0 := of_decide_eq_true c
      have e : decide (n ≤ 1000) = decide (0 ≤ n ∧ n ≤ 1000) := by simp [h0]
      rw [← e] at k
      exact k
    · have h0 : ¬ 0 ≤ n := fun h => c (decide_eq_true h)
      have e : decide (0 ≤ n ∧ n ≤ 1000) = false := by simp [h0]
      rw [e] at k
      exact k
theorem ok_chksw (T : Bp mg) (x : XP P w K mg A AI) (B : BedT K C) (c_is_price : DefOk P w K mg base CX0 1 "is_price" spIsPr) (D : Def0 K mg "check_swaps" s_check_swaps) : DefOk P w K mg base (L2.CX P w) 2 "check_swaps" (spChkSw C AI) := by
  have x_InvalidPrices := x.xI
  refine D.okX sc_check_swaps (fun vs H Q E h => ?_) (fun _ _ _ _ _ _ us hl => match us, hl with | [_, _], _ => rfl) (fun f cdv A outer s H vs Q E hr h => ?_)
  · obtain ⟨b, q, us, rows, sws, rfl, _⟩ := h
    rfl
  · obtain ⟨b, q, us, rows, sws, rfl, hB, R, hq, hS, h6, kx, key⟩ := h
    have hu := hu_of hr
    have hu2 := hu2p_of hr
    have ls : (us.map V.ref).length = sws.length := by rw [List.length_map, hS.1]
    refine ⟨_, (pss_cons (ps_set (i := 2) sc_check_swaps.nd rfl (Or.inl rfl) (pe_callTy0 (show CallR _ (.type "set") (KSet.rNew P w) from KSet.cr_new) (by rfl) T.b_set (by decide +kernel)))
      (pss_one (ps_for (passes_of rfl) rfl (pi_enumT (by rfl) T.b_enumerate (pa_cons (pv 1) pa_nil)) (pg_tup (by rfl) (pgs_cons (pg_name (i := 3) sc_check_swaps.nd rfl (Or.inl rfl)) (pgs_cons (pg_tup (by rfl) (pgs_cons (pg_name (i := 4) sc_check_swaps.nd rfl (Or.inl rfl)) (pgs_cons (pg_name (i := 5) sc_check_swaps.nd rfl (Or.inl rfl)) (pgs_cons (pg_name (i := 6) sc_check_swaps.nd rfl (Or.inl rfl)) pgs_nil)))) pgs_nil)))
        (pss_cons (ps_if (PW.pt (pw_or (pt_cmp (pc_dnotin hu (pv 4) (pe_fld (pv 0) rfl))) (pw_or (pt_cmp (pc_dnotin hu (pv 5) (pe_fld (pv 0) rfl))) (pw_or (pt_cmpR op_eq (pv 4) (pv 5) (nomark _)) (pw_or1 (pt_not (pt_val (pe_d c_is_price (hr.mono (by decide)) pass0 (pa_cons (pv 6) pa_nil)))))))))
          (pss_one (ps_raiseSup rfl x_InvalidPrices hr (takes_of rfl rfl rfl rfl) (pa_cons (pv 3) pa_nil)))
          pss_nil)
        (pss_cons (ps_if (PW.pt (pw_or (pt_cmpR op_ne (pe_dget hu (pe_fld (pv 0) rfl) (pv 4) (fun _ _ => rfl)) (pe_dget hu (pe_fld (pv 0) rfl) (pv 5) (fun _ _ => rfl)) (nomark _)) (pw_or1 (pt_cmpR (show OpR _ _ (KSet.rIn P w false) from KSet.or_in hu2) (pe_tup (pa_cons (pv 4) (pa_cons (pv 5) pa_nil))) (pv 2) (by rfl)))))
          (pss_one (ps_raiseSup rfl x_InvalidPrices hr (takes_of rfl rfl rfl rfl) (pa_cons (pv 3) pa_nil)))
          pss_nil)
        (pss_one (ps_expr (show PE _ _ (KSet.tAdd P w _ _) from KSet.pe_addP hu2 (pv 2) (pa_cons (pe_tup (pa_cons (pv 4) (pa_cons (pv 5) pa_nil))) pa_nil))))))))), ?_⟩
    refine ⟨rfl, fun p hp at1 => ?_⟩
    have s1 := (Same.refl H).upd_new (o := KSet.O P w p []) hp
    generalize upd H p (KSet.O P w p []) = H1 at s1 at1
    refine ⟨_, rfl, q, _, rfl, SqT.of (s1 _ _ hq), for_it (walk_enumT (xs := us.map V.ref)) (fun i σ H' => ∃ (x3 x4 x5 x6 : Option V), σ = [some (.ref b), some (.ref q), some (.ref p), x3, x4, x5, x6] ∧ Same H H' ∧ KSet.At P w H' p ((((sws.take i).map fun z => (z.1, z.2.1)).map ck).reverse) ∧ GoodB rows sws i)
      ⟨none, none, none, none, rfl, s1, at1, .zero⟩ (fun i σ H' _ ⟨_, _, _, _, _, s2, _⟩ => SqT.of (s2 _ _ hq)) ?_ ?_⟩
    · rintro i v σ H2 H2' hi ⟨x3, x4, x5, x6, rfl, s2, at2, g2⟩ ⟨P1, v1, v2, rfl, hP1, rfl, e1, e2⟩
      cases e1
      have his : i < sws.length := by rw [ls] at hi; exact hi
      have hiu : i < us.length := by rw [hS.1]; exact his
      have hqi := List.getElem?_eq_getElem his
      have hsw := s2 _ _ (hS.2 i us[i] sws[i] (List.getElem?_eq_getElem hiu) hqi)
      have e2' : (us.map V.ref)[i]? = some v2 := e2
      rw [List.getElem?_map, List.getElem?_eq_getElem hiu] at e2'
      cases e2'
      generalize us[i] = t at hsw
      generalize hzz : sws[i] = z at hqi hsw
      have s3 := s2.upd_new (o := .tup [.int ((i : Nat) : Int), .ref t]) hP1
      have s23 := (Same.refl H2).upd_new (o := .tup [.int ((i : Nat) : Int), .ref t]) hP1
      have f3 : (upd H2 P1 (.tup [.int ((i : Nat) : Int), .ref t])) P1 = some (.tup [.int ((i : Nat) : Int), .ref t]) := upd_same
      have at3 := at2.keep (H' := upd H2 P1 (.tup [.int ((i : Nat) : Int), .ref t])) (fun b ys h => s23 _ _ h) (by
        obtain ⟨L, hL, _⟩ := at2
        rw [hL]
        exact s23 _ _ hL)
      generalize upd H2 P1 (.tup [.int ((i : Nat) : Int), .ref t]) = H3 at s3 s23 f3 at3
      have hsw3 := s23 _ _ hsw
      have bad : ¬ GoodQ rows (sws.take i) z → RzP AI E H3 (i : Nat) := fun n => (kx i z hqi g2 n).same s3
      have thr : ¬ GoodQ rows (sws.take i) z → ipP [.int ((i : Nat) : Int)] ∧ [V.int ((i : Nat) : Int)].length = (["place"] : List Str).length ∧ ∀ d, H3 d = none → E (.ref AI) (some d) (upd H3 d (.xd (ipF (i : Nat)))) := fun n => ⟨⟨_, rfl, by omega, by omega⟩, rfl, fun d hd => bad n H3 d (Same.refl H3) hd⟩
      obtain ⟨dx, r, kk, ww, rk, ts, b1, b2, b3, b4, b5, b6⟩ := hB.same s3
      have g0 := DGet.k (k := .inr z.1) b5
      have g1 := DGet.k (k := .inr z.2.1) b5
      refine ⟨P1, _, rfl, SqT.of f3, rfl, _, _, rfl, _, _, rfl, t, _, rfl, SqT.of hsw3, rfl, _, _, rfl, _, _, rfl, _, _, rfl, rfl, rfl, ?_⟩
      refine ⟨_, rfl, _, rfl, b, C, dx, _, _, rfl, b1, B.cl, B.nW, lk_widths _ _ _ _, ww, _, rfl, g0, _, rfl, ite2 (fun c => ⟨_, rfl, thr fun g => ?_⟩) (fun a1 => ?_)⟩
      · rw [(has_val R z.1).mpr g.a] at c
        exact absurd c (by decide)
      refine ⟨_, rfl, _, rfl, b, C, dx, _, _, rfl, b1, B.cl, B.nW, lk_widths _ _ _ _, ww, _, rfl, g1, _, rfl, ite2 (fun c => ⟨_, rfl, thr fun g => ?_⟩) (fun a2 => ?_)⟩
      · rw [(has_val R z.2.1).mpr g.b] at c
        exact absurd c (by decide)
      refine ⟨_, rfl, _, rfl, rfl, _, rfl, ite2 (fun c => ⟨_, rfl, thr fun g => g.ne ?_⟩) (fun a3 => ?_)⟩
      · have := of_decide_eq_true c
        injection this
      refine ⟨_, rfl, z.2.2, rfl, _, rfl, ite2 (fun c => ⟨_, rfl, thr fun g => ?_⟩) (fun a4 => ?_)⟩
      · have := g.lo
        have := g.hi
        have e : decide (0 ≤ z.2.2 ∧ z.2.2 ≤ 1000) = true := decide_eq_true (by omega)
        rw [e] at c
        exact absurd c (by decide)
      have ha : HasN rows z.1 := (has_val R z.1).mp (by
        cases e : (valV (wL rows) (.inr z.1)).isSome with
        | true => rfl
        | false => rw [e] at a1; exact absurd rfl a1)
      have hb : HasN rows z.2.1 := (has_val R z.2.1).mp (by
        cases e : (valV (wL rows) (.inr z.2.1)).isSome with
        | true => rfl
        | false => rw [e] at a2; exact absurd rfl a2)
      have hne : z.1 ≠ z.2.1 := fun e => a3 (decide_eq_true (by rw [e]))
      have hpr : 0 ≤ z.2.2 ∧ z.2.2 ≤ 1000 := by
        cases e : decide (0 ≤ z.2.2 ∧ z.2.2 ≤ 1000) with
        | true => exact of_decide_eq_true e
        | false => rw [e] at a4; exact absurd rfl a4
      rw [val_wL R ha] at g0
      rw [val_wL R hb] at g1
      refine ⟨_, rfl, b, C, dx, _, _, rfl, b1, B.cl, B.nW, lk_widths _ _ _ _, _, rfl, ww, _, rfl, g0, _, rfl, b, C, dx, _, _, rfl, b1, B.cl, B.nW, lk_widths _ _ _ _, _, rfl, ww, _, rfl, g1, rfl, _, rfl, ite2 (fun c => ⟨_, rfl, thr fun g => ?_⟩) (fun a5 => ?_)⟩
      · rw [g.wd] at c
        simp at c
      have hwd : wR rows z.1 = wR rows z.2.1 := by
        rcases Nat.decEq (wR rows z.1) (wR rows z.2.1) with h | h
        · exact absurd (by simp; omega) a5
        · exact h
      refine ⟨_, rfl, _, rfl, le_line (show 2 ≤ 10000000 by decide), fun m hm => ?_⟩
      have s4 := (Same.refl H3).upd_new (o := .tup [.str z.1, .str z.2.1]) hm
      have m4 : (upd H3 m (.tup [.str z.1, .str z.2.1])) m = some (.tup ((ck (z.1, z.2.1)).map kV)) := upd_same
      have at4 := at3.keep (H' := upd H3 m (.tup [.str z.1, .str z.2.1])) (fun b ys h => s4 _ _ h) (by
        obtain ⟨L, hL, _⟩ := at3
        rw [hL]
        exact s4 _ _ hL)
      generalize upd H3 m (.tup [.str z.1, .str z.2.1]) = H4 at s4 m4 at4
      have mm : ∀ y : Bool, (y = true ↔ ck (z.1, z.2.1) ∈ (((sws.take i).map fun z => (z.1, z.2.1)).map ck).reverse) → (y = true ↔ (z.1, z.2.1) ∈ (sws.take i).map fun z => (z.1, z.2.1)) := fun y h => by
        rw [List.mem_reverse, mem_ck] at h
        exact h
      refine ⟨_, rfl, p, m, ck (z.1, z.2.1), _, rfl, rfl, at4, m4, fun y hy => ⟨_, rfl, ite2 (fun c => ⟨_, rfl, ⟨_, rfl, by omega, by omega⟩, rfl, fun d hd => bad (fun g => g.nw ((mm y hy).mp c)) H4 d s4 hd⟩) (fun a6 => ?_)⟩⟩
      have good : GoodQ rows (sws.take i) z := ⟨ha, hb, hne, hwd, hpr.1, hpr.2, fun h => a6 ((mm y hy).mpr h)⟩
      refine ⟨_, rfl, ⟨p, _, rfl, at4⟩, _, rfl, _, rfl, le_line (show 2 ≤ 10000000 by decide), fun n hn => ?_⟩
      have s5 := (Same.refl H4).upd_new (o := .tup [.str z.1, .str z.2.1]) hn
      have n5 : (upd H4 n (.tup [.str z.1, .str z.2.1])) n = some (.tup ((ck (z.1, z.2.1)).map kV)) := upd_same
      have at5 := at4.keep (H' := upd H4 n (.tup [.str z.1, .str z.2.1])) (fun b ys h => s5 _ _ h) (by
        obtain ⟨L, hL, _⟩ := at4
        rw [hL]
        exact s5 _ _ hL)
      generalize upd H4 n (.tup [.str z.1, .str z.2.1]) = H5 at s5 n5 at5
      refine ⟨p, n, ck (z.1, z.2.1), _, rfl, rfl, at5, n5, fun h => a6 (hy.mpr h), ?_, fun H6 ot at6 => ?_⟩
      · rw [List.length_reverse, List.length_map, List.length_map, List.length_take]
        omega
      have nhp : ∀ c o, H c = some o → c ≠ p := fun c o hc e => by rw [e, hp] at hc; cases hc
      refine ⟨_, _, _, _, rfl, fun c o hc => (ot c (nhp c o hc)).trans (((s3.trans s4).trans s5) c o hc), ?_, g2.more hqi good⟩
      rw [← take_snoc hqi, List.map_append, List.map_append, List.reverse_append]
      exact at6
    · rintro σ H2 ⟨x3, x4, x5, x6, rfl, s2, at2, g2⟩
      rw [ls] at g2
      exact key g2 H2 s2
end
end Sh
end
section
set_option Elab.async false
set_option linter.all false
set_option maxRecDepth 100000
set_option maxHeartbeats 4000000
namespace Sh
open PySem PySem.Spec PyProof.Rows L2
open C8 (pss_cut tCut)
open Evl (ixN_nat)
/-- the price of a swap, 0 of a kind for itself -/
def swp (sws : List Swap) (z y : Str) : Option Int := if z = y then some 0 else (sws.find? fun q => decide (q.1 = z ∧ q.2.1 = y)).map (·.2.2)
theorem swp_nil (z y : Str) : swp [] z y = if z = y then some 0 else none := rfl
theorem swp_snoc {rows : List Row} {sws : List Swap} {q : Swap} (g : GoodQ rows sws q) (z y : Str) : swp (sws ++ [q]) z y = if z = q.1 ∧ y = q.2.1 then some q.2.2 else swp sws z y := by
  unfold swp
  by_cases h : z = y
  · rw [if_pos h, if_pos h, if_neg]
    rintro ⟨a, b⟩
    exact g.ne (by rw [← a, h, b])
  · rw [if_neg h, if_neg h, List.find?_append]
    by_cases c : z = q.1 ∧ y = q.2.1
    · have n : sws.find? (fun p => decide (p.1 = z ∧ p.2.1 = y)) = none := List.find?_eq_none.mpr fun p hp e => g.nw (by
        have e := of_decide_eq_true e
        rw [c.1, c.2] at e
        exact List.mem_map.mpr ⟨p, hp, by rw [e.1, e.2]⟩)
      rw [n, if_pos c, List.find?_cons_of_pos (by rw [c.1, c.2]; simp)]
      rfl
    · rw [if_neg c, List.find?_cons_of_neg (by
        intro e
        have e := of_decide_eq_true e
        exact c ⟨e.1.symm, e.2.symm⟩)]
      simp
theorem swp_wd {rows : List Row} {sws : List Swap} (W : GoodB rows sws sws.length) {z y : Str} {c : Int} (h : swp sws z y = some c) : wR rows z = wR rows y := by
  unfold swp at h
  split at h
  · rename_i e
    rw [e]
  · cases hf : sws.find? (fun q => decide (q.1 = z ∧ q.2.1 = y)) with
    | none => rw [hf] at h; cases h
    | some q =>
      obtain ⟨i, hi⟩ := List.mem_iff_getElem?.mp (List.mem_of_find?_eq_some hf)
      have g := W i q (List.getElem?_eq_some_iff.mp hi).1 hi
      have hp := List.find?_some hf
      have e : q.1 = z ∧ q.2.1 = y := of_decide_eq_true hp
      rw [← e.1, ← e.2]
      exact g.wd
/-- what the kinds can be changed into -/
def tnL (ns : List Str) (ds : List Addr) : List (Key × V) := (ns.zip ds).map fun q => (.inr q.1, .ref q.2)
/-- keys that are texts, no two alike -/
def KvOk (kvs : List (Key × V)) : Prop := (kvs.map (·.1)).Nodup ∧ ∀ kv ∈ kvs, ∃ y : Str, kv.1 = .inr y
theorem KvOk.one (n : Str) (v : V) : KvOk [(.inr n, v)] := ⟨List.nodup_cons.mpr ⟨List.not_mem_nil, List.nodup_nil⟩, fun kv h => ⟨n, by rw [List.mem_singleton.mp h]⟩⟩
theorem KvOk.put {kvs : List (Key × V)} (x : KvOk kvs) (y : Str) (v : V) : KvOk (putK kvs (.inr y) v) := by
  unfold putK
  split
  · have e : (kvs.map fun kv => if kv.1 = .inr y then (kv.1, v) else kv).map (·.1) = kvs.map (·.1) := by
      rw [List.map_map]
      refine List.map_congr_left fun kv _ => ?_
      show (if kv.1 = .inr y then (kv.1, v) else kv).1 = kv.1
      split <;> rfl
    refine ⟨by rw [e]; exact x.1, fun kv h => ?_⟩
    obtain ⟨q, hq, rfl⟩ := List.mem_map.mp h
    obtain ⟨z, hz⟩ := x.2 q hq
    refine ⟨z, ?_⟩
    split
    · exact hz
    · exact hz
  · rename_i hn
    have nk : (.inr y : Key) ∉ kvs.map (·.1) := fun h => hn (by
      obtain ⟨q, hq, e⟩ := List.mem_map.mp h
      rw [List.any_eq_true]
      exact ⟨q, hq, decide_eq_true e⟩)
    refine ⟨?_, fun kv h => ?_⟩
    · rw [List.map_append]
      exact List.nodup_append.mpr ⟨x.1, by simp, fun a ha b hb e => by
        rw [List.mem_singleton.mp hb] at e
        have e : a = .inr y := e
        exact nk (e ▸ ha)⟩
    · rcases List.mem_append.mp h with h | h
      · exact x.2 kv h
      · exact ⟨y, by rw [List.mem_singleton.mp h]⟩
structure TnAt (H : Hp) (d : Addr) (ns : List Str) (ds : List Addr) (sws : List Swap) : Prop where
  at_ : H d = some (.dK (tnL ns ds))
  len : ds.length = ns.length
  nd : ds.Nodup
  nin : d ∉ ds
  row : ∀ (i : Nat) (n : Str) (a : Addr), ns[i]? = some n → ds[i]? = some a → ∃ kvs, H a = some (.dK kvs) ∧ (kvs.length ≤ 1 + sws.length ∧ KvOk kvs) ∧ ∀ y : Str, valV kvs (.inr y) = (swp sws n y).map V.int
theorem TnAt.keep {H H' : Hp} {d : Addr} {ns : List Str} {ds : List Addr} {sws : List Swap} (x : TnAt H d ns ds sws) (k : ∀ a kvs, H a = some (.dK kvs) → H' a = some (.dK kvs)) : TnAt H' d ns ds sws :=
  ⟨k _ _ x.at_, x.len, x.nd, x.nin, fun i n a h1 h2 => by
    obtain ⟨kvs, q1, q2, q3⟩ := x.row i n a h1 h2
    exact ⟨kvs, k _ _ q1, q2, q3⟩⟩
theorem tn_val {ns : List Str} {ds : List Addr} (nd : ns.Nodup) {i : Nat} {n : Str} {a : Addr} (h1 : ns[i]? = some n) (h2 : ds[i]? = some a) : valV (tnL ns ds) (.inr n) = some (.ref a) := by
  unfold valV tnL
  rw [List.find?_map]
  have hz : (ns.zip ds)[i]? = some (n, a) := List.getElem?_zip_eq_some.mpr ⟨h1, h2⟩
  have : (ns.zip ds).find? ((fun kv : Key × V => decide (kv.1 = Sum.inr n)) ∘ fun q : Str × Addr => ((.inr q.1 : Key), V.ref q.2)) = some (n, a) := by
    have e : ((fun kv : Key × V => decide (kv.1 = Sum.inr n)) ∘ fun q : Str × Addr => ((.inr q.1 : Key), V.ref q.2)) = fun q => decide (q.1 = n) := by
      funext q
      exact key_rr q.1 n
    rw [e]
    have hm := List.mem_of_getElem? hz
    cases hf : (ns.zip ds).find? (fun q => decide (q.1 = n)) with
    | none => exact absurd (List.find?_eq_none.mp hf _ hm) (by simp)
    | some q =>
      have hp := List.find?_some hf
      have e1 : q.1 = n := of_decide_eq_true hp
      obtain ⟨j, hj⟩ := List.mem_iff_getElem?.mp (List.mem_of_find?_eq_some hf)
      obtain ⟨j1, j2⟩ := List.getElem?_zip_eq_some.mp hj
      rw [e1] at j1
      have := nd_at nd h1 j1
      subst this
      rw [h2] at j2
      injection j2 with j2
      exact congrArg some (Prod.ext e1 j2.symm)
  rw [this]
  rfl
theorem inr_iff {a b : Str} : (Sum.inr a : Key) = Sum.inr b ↔ a = b := ⟨fun h => by injection h, fun h => by rw [h]⟩
theorem TnAt.add {H : Hp} {D p : Addr} {ns : List Str} {ds : List Addr} {n : Str} (x : TnAt H D ns ds []) (hp : H p = none) (hn : n ∉ ns) :
    TnAt (upd (upd (upd H p (.dK [])) p (.dK [(.inr n, .int 0)])) D (.dK (putK (tnL ns ds) (.inr n) (.ref p)))) D (ns ++ [n]) (ds ++ [p]) [] := by
  have npD : p ≠ D := fun e => by rw [e, x.at_] at hp; cases hp
  have npd : ∀ a ∈ ds, a ≠ p := fun a ha e => by
    obtain ⟨i, hi⟩ := List.mem_iff_getElem?.mp ha
    have l := (List.getElem?_eq_some_iff.mp hi).1
    have l : i < ns.length := by rw [← x.len]; exact l
    obtain ⟨kvs, q, _⟩ := x.row i ns[i] a (List.getElem?_eq_getElem l) hi
    rw [e, hp] at q
    cases q
  have fresh : valV (tnL ns ds) (.inr n) = none := valV_none fun kv hk e => by
    obtain ⟨q, hq, rfl⟩ := List.mem_map.mp hk
    have e : q.1 = n := inr_iff.mp e
    exact hn (e ▸ (List.of_mem_zip hq).1)
  refine ⟨?_, ?_, ?_, ?_, ?_⟩
  · rw [upd_same, putK_new _ fresh]
    unfold tnL
    rw [List.zip_append x.len.symm, List.map_append]
    rfl
  · rw [List.length_append, List.length_append, x.len]
    rfl
  · exact List.nodup_append.mpr ⟨x.nd, by simp, fun a ha b hb => by
      rw [List.mem_singleton.mp hb]
      exact npd a ha⟩
  · intro h
    rcases List.mem_append.mp h with h | h
    · exact x.nin h
    · exact npD (List.mem_singleton.mp h).symm
  · intro i m a h1 h2
    by_cases c : i < ns.length
    · rw [List.getElem?_append_left c] at h1
      rw [List.getElem?_append_left (by rw [x.len]; exact c)] at h2
      obtain ⟨kvs, q1, q2, q3⟩ := x.row i m a h1 h2
      have ha := List.mem_of_getElem? h2
      refine ⟨kvs, ?_, q2, q3⟩
      have naD : a ≠ D := fun e => x.nin (by rw [← e]; exact ha)
      rw [upd_ne naD, upd_ne (npd a ha), upd_ne (npd a ha)]
      exact q1
    · rw [List.getElem?_append_right (by omega)] at h1
      rw [List.getElem?_append_right (by rw [x.len]; omega), x.len] at h2
      have e0 : i - ns.length = 0 := by
        have := (List.getElem?_eq_some_iff.mp h1).1
        have l1 : ([n] : List Str).length = 1 := rfl
        omega
      rw [e0] at h1 h2
      cases h1
      cases h2
      refine ⟨_, by rw [upd_ne npD, upd_same], ⟨Nat.le_refl _, .one _ _⟩, fun y => ?_⟩
      rw [swp_nil]
      unfold valV
      by_cases e : n = y
      · rw [List.find?_cons_of_pos (by rw [e]; simp), if_pos e]
        rfl
      · rw [List.find?_cons_of_neg (by intro h; exact e (inr_iff.mp (of_decide_eq_true h))), if_neg e]
        rfl
theorem TnAt.put {rows : List Row} {H : Hp} {D a : Addr} {ns : List Str} {ds : List Addr} {sws : List Swap} {z : Swap} (x : TnAt H D ns ds sws) (nd : ns.Nodup) (g : GoodQ rows sws z) {i : Nat} (h1 : ns[i]? = some z.1) (h2 : ds[i]? = some a) {kvs : List (Key × V)} (ha : H a = some (.dK kvs)) :
    TnAt (upd H a (.dK (putK kvs (.inr z.2.1) (.int z.2.2)))) D ns ds (sws ++ [z]) := by
  have nDa : D ≠ a := fun e => x.nin (e ▸ List.mem_of_getElem? h2)
  refine ⟨by rw [upd_ne nDa]; exact x.at_, x.len, x.nd, x.nin, fun j m b g1 g2 => ?_⟩
  obtain ⟨kv2, q1, q2, q3⟩ := x.row j m b g1 g2
  by_cases c : j = i
  · subst c
    rw [h1] at g1
    cases g1
    rw [h2] at g2
    cases g2
    rw [ha] at q1
    injection q1 with q1
    injection q1 with q1
    subst q1
    refine ⟨_, upd_same, ⟨?_, q2.2.put _ _⟩, fun y => ?_⟩
    · have := length_putK kvs (.inr z.2.1) (.int z.2.2)
      have q2 := q2.1
      rw [List.length_append]
      show _ ≤ 1 + (_ + 1)
      omega
    · rw [valV_put, swp_snoc g, q3 y]
      by_cases e : y = z.2.1
      · rw [if_pos (by rw [e]), if_pos ⟨rfl, e⟩]
        rfl
      · rw [if_neg (fun h => e (inr_iff.mp h)), if_neg (fun h => e h.2)]
  · have nba : b ≠ a := fun e => by
      rw [e] at g2
      obtain ⟨l1, e1⟩ := List.getElem?_eq_some_iff.mp g2
      obtain ⟨l2, e2⟩ := List.getElem?_eq_some_iff.mp h2
      exact c ((List.getElem_inj x.nd).mp (e1.trans e2.symm))
    refine ⟨kv2, by rw [upd_ne nba]; exact q1, ⟨by rw [List.length_append]; have := q2.1; omega, q2.2⟩, fun y => ?_⟩
    rw [swp_snoc g, if_neg, q3 y]
    rintro ⟨e, _⟩
    rw [e] at g1
    exact c (nd_at nd g1 h1)
def prF (b : Addr) (cut : Int) (q d : Addr) : List (Str × V) := [("bed", .ref b), ("cutting", .int cut), ("swaps", .ref q), ("turns", .ref d)]
theorem p_ne : ¬ ("bed" : Str) = "cutting" ∧ ¬ ("bed" : Str) = "swaps" ∧ ¬ ("bed" : Str) = "turns" ∧ ¬ ("cutting" : Str) = "swaps" ∧ ¬ ("cutting" : Str) = "turns" ∧ ¬ ("swaps" : Str) = "turns" := by decide +kernel
theorem pr_put2 (b : Addr) (c : Int) : putF "cutting" (.int c) [("bed", .ref b)] = [(("bed" : Str), V.ref b), ("cutting", .int c)] := by simp [putF, p_ne]
theorem pr_put3 (b : Addr) (c : Int) (q : Addr) : putF "swaps" (.ref q) [("bed", .ref b), ("cutting", .int c)] = [(("bed" : Str), V.ref b), ("cutting", .int c), ("swaps", .ref q)] := by simp [putF, p_ne]
theorem pr_put4 (b : Addr) (c : Int) (q d : Addr) : putF "turns" (.ref d) [("bed", .ref b), ("cutting", .int c), ("swaps", .ref q)] = prF b c q d := by simp [putF, p_ne, prF]
theorem pr_tns (b : Addr) (c : Int) (q d : Addr) : (prF b c q d).lookup ("turns" : Str) = some (.ref d) := by
  have h : (("turns" : Str) == "bed") = false := by decide +kernel
  have h2 : (("turns" : Str) == "cutting") = false := by decide +kernel
  have h3 : (("turns" : Str) == "swaps") = false := by decide +kernel
  simp [prF, List.lookup, h, h2, h3]
structure PrT (K : PySem.W.Frag) (C : Addr) : Prop where
  cl : Cls K C
  nB : NoAttr K C "bed"
  nC : NoAttr K C "cutting"
  nS : NoAttr K C "swaps"
  nT : NoAttr K C "turns"
/-- prices, laid out -/
def PrcAt (C CP : Addr) (H : Hp) (p : Addr) (rows : List Row) (cut : Int) (sws : List Swap) : Prop := ∃ (dx b q d : Addr) (us ds : List Addr), H p = some (.ins CP dx (prF b cut q d)) ∧ BedAt C H b rows ∧ H q = some (.tup (us.map V.ref)) ∧ PlAt swV H us sws ∧ TnAt H d (rows.map (·.1)) ds sws
theorem PrcAt.same {C CP : Addr} {H H' : Hp} {p : Addr} {rows : List Row} {cut : Int} {sws : List Swap} (x : PrcAt C CP H p rows cut sws) (s : Same H H') : PrcAt C CP H' p rows cut sws := by
  obtain ⟨dx, b, q, d, us, ds, h1, h2, h3, h4, h5⟩ := x
  exact ⟨dx, b, q, d, us, ds, s _ _ h1, h2.same s, s _ _ h3, h4.keep fun _ _ h => s _ _ h, h5.keep fun _ _ h => s _ _ h⟩
theorem BedAt.kx {C x D dx : Addr} {H H' : Hp} {b : Addr} {rows : List Row} (B : BedAt C H b rows) (hx : H x = some (.ins D dx [])) (k : Kp x H H') : BedAt C H' b rows := by
  obtain ⟨dx', r, kk, w, rk, ts, h1, h2, h3, h4, h5, h6⟩ := B
  exact ⟨dx', r, kk, w, rk, ts, k _ _ h1 (ne_of h1 hx (fun e => by unfold bedF at e; cases e)), k _ _ h2 (ne_of h2 hx (fun e => nomatch e)), h3.keep (fun t xs q => k _ _ q (ne_of q hx (fun e => nomatch e))),
    k _ _ h4 (ne_of h4 hx (fun e => nomatch e)), k _ _ h5 (ne_of h5 hx (fun e => nomatch e)), k _ _ h6 (ne_of h6 hx (fun e => nomatch e))⟩
def spPrI (C CP AI : Addr) : Sp := fun vs H Q E => ∃ (x dx b q : Addr) (cut : Int) (us : List Addr) (rows : List Row) (sws : List Swap), vs = [.ref x, .ref b, .int cut, .ref q] ∧ H x = some (.ins CP dx []) ∧ BedAt C H b rows ∧ ROk 4 rows ∧ H q = some (.tup (us.map V.ref)) ∧ PlAt swV H us sws ∧ sws.length ≤ 6 ∧
  (∀ e, FstF rows cut sws e → e ≠ -2 → RzP AI E H e) ∧ (FstF rows cut sws (-2) → ∀ H', Kp x H H' → PrcAt C CP H' x rows cut sws → Q .non H')
abbrev N_Prices_init__ : List Str := ["self", "bed", "cutting", "swaps", "kind", "other", "cost"]
theorem sc_Prices_init__ : FnScope N_Prices_init__ ["self", "bed", "cutting", "swaps"] (defScope s_Prices_init__) := ⟨rfl, rfl, rfl, by decide +kernel, rfl, by decide +kernel, by decide +kernel⟩
section
variable {P : Program} {w : World} {K : PySem.W.Frag} {mg : Str → Option Value} {base : Heap} {C CP AI : Addr} {A : XA}
theorem body_pri (T : Bp mg) (x51 : XP P w K mg A AI) (B : BedT K C) (BP : PrT K CP) (c_is_price : DefOk P w K mg base CX0 1 "is_price" spIsPr) (c_check_swaps : DefOk P w K mg base (L2.CX P w) 2 "check_swaps" (spChkSw C AI)) {f : Addr} {cdv : Value} {A' : Around} {outer : List Env} {s' : Shared} {H : Hp} {vs : List V} {Q : VK} {E : XK} (hr : Room 3 (A'.deeper (envOfC "Prices.__init__" (defScope s_Prices_init__) s'.heap.objs.size f cdv))) (h : spPrI C CP AI vs H Q E) :
    ∃ t, PSs (cxOf (L2.CX P w) P w K mg base N_Prices_init__ "Prices.__init__" (defScope s_Prices_init__) f cdv A' outer s' H E) (defBody s_Prices_init__) t ∧ t { nx := fun _ H' => Q .non H', rt := Q } (start N_Prices_init__ vs) H := by
  have x_InvalidPrices := x51.xI
  obtain ⟨x, dx, b, q, cut, us, rows, sws, rfl, hx, hB, R, hq, hS, h6, kx, key⟩ := h
  have hu := hu_of hr
  refine ⟨_, (pss_cons (ps_if (pt_not (pt_val (pe_d c_is_price (hr.mono (by decide)) pass0 (pa_cons (pv 2) pa_nil))))
      (pss_one (ps_raiseSup rfl x_InvalidPrices hr (takes_of rfl rfl rfl rfl) (pa_cons (pe_un un_neg pe_int) pa_nil)))
      pss_nil)
    (pss_cons (ps_expr (pe_d c_check_swaps (hr.mono (by decide)) (passes_call (takes_of rfl rfl rfl rfl) fun _ _ _ _ h => h) (pa_cons (pv 1) (pa_cons (pv 3) pa_nil))))
    (pss_cons (ps_fld (pv 0) (pv 1) rfl)
    (pss_cons (ps_fld (pv 0) (pv 2) rfl)
    (pss_cons (ps_fld (pv 0) (pv 3) rfl)
    (pss_cons (ps_fld (pv 0) (pe_dc (own := [("kind", 4)]) (g := (gName 4)) (tt := tYes) rfl sc_Prices_init__.nd (pi_tup (pe_fld (pv 1) rfl)) (blkOk_by (N := N_Prices_init__) (sc := defScope s_Prices_init__) (by decide +kernel)) (fun _ _ _ _ _ => (pg_name (i := 4) sc_Prices_init__.nd rfl (Or.inl rfl))) (fun _ _ _ _ _ => pts_nil) (fun _ _ _ _ _ => (pv 4)) (fun _ _ _ _ _ => (pe_disp (pps_cons (pv 4) pe_int pps_nil) rfl rfl (by decide) (by decide)))) rfl)
    (pss_one (ps_for (passes_of rfl) rfl (pi_tup (pv 3)) (pg_tup (by rfl) (pgs_cons (pg_name (i := 4) sc_Prices_init__.nd rfl (Or.inl rfl)) (pgs_cons (pg_name (i := 5) sc_Prices_init__.nd rfl (Or.inl rfl)) (pgs_cons (pg_name (i := 6) sc_Prices_init__.nd rfl (Or.inl rfl)) pgs_nil))))
      (pss_one (ps_dput hu (pe_dget hu (pe_fld (pv 0) rfl) (pv 4) (fun _ _ => rfl)) (pv 5) (pv 6) rfl)))))))))), ?_⟩
  refine ⟨_, rfl, cut, rfl, _, rfl, ite2 (fun c => ?_) (fun c => ?_)⟩
  · have nc : cut < 0 ∨ 1000 < cut := by
      cases e : decide (0 ≤ cut ∧ cut ≤ 1000) with
      | true => rw [e] at c; exact absurd c (by decide)
      | false =>
        have := of_decide_eq_false e
        omega
    exact ⟨_, rfl, ⟨_, rfl, by omega, by omega⟩, rfl, fun d hd => kx (-1) (.inl ⟨rfl, nc⟩) (by decide) H d (Same.refl H) hd⟩
  have hc : 0 ≤ cut ∧ cut ≤ 1000 := by
    cases e : decide (0 ≤ cut ∧ cut ≤ 1000) with
    | true => exact of_decide_eq_true e
    | false => rw [e] at c; exact absurd rfl c
  refine ⟨_, rfl, _, rfl, b, q, us, rows, sws, rfl, hB, R, hq, hS, h6, fun i p hp g ng => kx _ (.inr (.inr ⟨hc.1, hc.2, i, p, rfl, hp, g, ng⟩)) (by omega), fun g H1 s1 => ?_⟩
  have key := key (.inr (.inl ⟨rfl, hc.1, hc.2, g⟩))
  have s1H := s1
  refine ⟨_, rfl, _, rfl, x, CP, dx, _, rfl, s1 _ _ hx, BP.cl, BP.nB, (by show 0 < 1000; decide), ?_⟩
  refine ⟨_, rfl, _, rfl, x, CP, dx, _, rfl, upd_same, BP.cl, BP.nC, (by show 1 < 1000; decide), ?_⟩
  refine ⟨_, rfl, _, rfl, x, CP, dx, _, rfl, upd_same, BP.cl, BP.nS, ?_, ?_⟩
  · rw [show putF "bed" (.ref b) [] = [(("bed" : Str), V.ref b)] from rfl, pr_put2]
    show 2 < 1000
    decide
  rw [show putF "bed" (.ref b) [] = [(("bed" : Str), V.ref b)] from rfl, pr_put2, pr_put3]
  generalize e2 : upd (upd (upd H1 x (.ins CP dx [(("bed" : Str), V.ref b)])) x (.ins CP dx [(("bed" : Str), V.ref b), ("cutting", .int cut)])) x (.ins CP dx [(("bed" : Str), V.ref b), ("cutting", .int cut), ("swaps", .ref q)]) = H2
  have hx2 : H2 x = some (.ins CP dx [(("bed" : Str), V.ref b), ("cutting", .int cut), ("swaps", .ref q)]) := by rw [← e2, upd_same]
  have k2 : Kp x H H2 := by rw [← e2]; exact (((Kp.same s1).upd).upd).upd
  clear e2
  have hB2 := hB.kx hx k2
  have hq2 := k2 _ _ hq (ne_of hq hx (fun e => nomatch e))
  obtain ⟨bx, r, kk, ww, rk, ts, b1, b2, b3, b4, b5, b6⟩ := hB2
  refine ⟨_, rfl, b, C, bx, _, _, rfl, b1, B.cl, B.nK, lk_kinds _ _ _ _, kk, rfl, ⟨_, SqT.of b4⟩, fun D hD => dc_it (walk_tup (xs := (rows.map (·.1)).map V.str)) (fun i H' => Same H2 H' ∧ ∃ ds, TnAt H' D ((rows.map (·.1)).take i) ds [] ∧ ∀ a ∈ ds, H2 a = none)
    ⟨(Same.refl H2).upd_new hD, [], ⟨upd_same, by simp, List.nodup_nil, (fun h => nomatch h), fun i n a h => by simp at h⟩, fun a h => nomatch h⟩ (fun i H' _ ⟨q, _⟩ => SqT.of (q _ _ b4)) ?_ ?_⟩
  · rintro i v H3 H4 hi ⟨s3, ds, T3, f3⟩ ⟨rfl, hv⟩
    rw [List.length_map] at hi
    obtain ⟨n, hn, rfl⟩ := get_map hv
    refine ⟨rfl, ?_⟩
    refine ⟨_, rfl, fun p hp => ⟨_, rfl, ⟨upd_same, [(.inr n, .int 0)], rfl, (show 1 ≤ 15 by decide), ?_⟩⟩⟩
    have npD : p ≠ D := fun e => by rw [e, T3.at_] at hp; cases hp
    have f2p : H2 p = none := by
      cases e : H2 p with
      | none => rfl
      | some o =>
        rw [s3 _ _ e] at hp
        cases hp
    have hl : ((rows.map (·.1)).take i).length = i := by rw [List.length_take]; omega
    have r4 := R.len
    refine ⟨_, .inr n, rfl, by rw [upd_ne (Ne.symm npD), upd_ne (Ne.symm npD)]; exact T3.at_, ?_, ((s3.upd_new hp).upd_own f2p).upd_own hD, ds ++ [p], ?_, fun a ha => ?_⟩
    · unfold tnL
      rw [List.length_map, List.length_zip, hl]
      rw [List.length_map] at hi
      exact lt_line (n := min i _) (by omega)
    · rw [← take_snoc hn]
      refine T3.add hp fun hm => ?_
      have := nd_take R.nd (i := i) (by omega)
      obtain ⟨l1, e1⟩ := List.getElem?_eq_some_iff.mp hn
      exact this (e1 ▸ hm)
    · rcases List.mem_append.mp ha with ha | ha
      · exact f3 a ha
      · rw [List.mem_singleton.mp ha]
        exact f2p
  rintro H3 ⟨s3, ds, T3, f3⟩
  rw [List.length_map, List.take_length] at T3
  have nDx : D ≠ x := fun e => by rw [e, hx2] at hD; cases hD
  refine ⟨_, rfl, x, CP, dx, _, rfl, s3 _ _ hx2, BP.cl, BP.nT, (by show 3 < 1000; decide), ?_⟩
  rw [pr_put4]
  have k4 : Kp x H (upd H3 x (.ins CP dx (prF b cut q D))) := (k2.trans (Kp.same s3)).upd
  have hx4 : (upd H3 x (.ins CP dx (prF b cut q D))) x = some (.ins CP dx (prF b cut q D)) := upd_same
  have T4 : TnAt (upd H3 x (.ins CP dx (prF b cut q D))) D (rows.map (·.1)) ds [] := T3.keep fun a kvs h => by
    rw [upd_ne fun e => by rw [e, s3 _ _ hx2] at h; cases h]
    exact h
  have nds : ∀ a ∈ ds, H a = none := fun a ha => by
    have h := f3 a ha
    cases e : H a with
    | none => rfl
    | some o =>
      by_cases c : a = x
      · rw [c, hx2] at h
        cases h
      · rw [k2 _ _ e c] at h
        cases h
  have hDH : H D = none := by
    cases e : H D with
    | none => rfl
    | some o =>
      rw [k2 _ _ e nDx] at hD
      cases hD
  have nxs : x ∉ ds := fun h => by
    have := nds x h
    rw [hx] at this
    cases this
  generalize upd H3 x (.ins CP dx (prF b cut q D)) = H4 at k4 hx4 T4
  have hq4 := k4 _ _ hq (ne_of hq hx (fun e => nomatch e))
  have ls : (us.map V.ref).length = sws.length := by rw [List.length_map, hS.1]
  refine ⟨_, rfl, q, rfl, ⟨_, SqT.of hq4⟩, for_it (walk_tup (xs := us.map V.ref)) (fun i σ H' => ∃ (x4 x5 x6 : Option V), σ = [some (.ref x), some (.ref b), some (.int cut), some (.ref q), x4, x5, x6] ∧ Kp x H H' ∧ H' x = some (.ins CP dx (prF b cut q D)) ∧ TnAt H' D (rows.map (·.1)) ds (sws.take i))
    ⟨none, none, none, rfl, k4, hx4, T4⟩ (fun i σ H' _ ⟨_, _, _, _, kk, _⟩ => SqT.of (kk _ _ hq (ne_of hq hx (fun e => nomatch e)))) ?_ ?_⟩
  · rintro i v σ H5' H5 hi ⟨x4, x5, x6, rfl, k5, hx5, T5⟩ ⟨rfl, hv⟩
    obtain ⟨t, ht, rfl⟩ := get_map hv
    have his : i < sws.length := by rw [ls] at hi; exact hi
    have hqi := List.getElem?_eq_getElem his
    generalize hzz : sws[i] = z at hqi
    have hsw0 := hS.2 i t z ht hqi
    have hsw := k5 _ _ hsw0 (ne_of hsw0 hx (fun e => nomatch e))
    have gz := g i z his hqi
    obtain ⟨q0, hq0, e0⟩ := gz.a
    obtain ⟨j, hj⟩ := List.mem_iff_getElem?.mp hq0
    have hjn : (rows.map (·.1))[j]? = some z.1 := by rw [List.getElem?_map, hj, ← e0]; rfl
    have jl : j < ds.length := by rw [T5.len]; exact (List.getElem?_eq_some_iff.mp hjn).1
    have hjd := List.getElem?_eq_getElem jl
    generalize hdd : ds[j] = a at hjd
    obtain ⟨kvs, r1, r2, r3⟩ := T5.row j z.1 a hjn hjd
    have am := List.mem_of_getElem? hjd
    have nax : x ≠ a := fun e => nxs (by rw [e]; exact am)
    refine ⟨t, _, rfl, SqT.of hsw, rfl, _, _, rfl, _, _, rfl, _, _, rfl, rfl, ?_⟩
    have gd : DGet H5 D (.str z.1) (some (.ref a)) := by
      have := DGet.k (k := .inr z.1) T5.at_
      rw [tn_val R.nd hjn hjd] at this
      exact this
    refine ⟨_, rfl, _, rfl, x, CP, dx, _, _, rfl, hx5, BP.cl, BP.nT, pr_tns _ _ _ _, _, rfl, D, _, rfl, gd, _, rfl, a, _, rfl, DPut.k (k := .inr z.2.1) r1 ?_, ?_⟩
    · rw [List.length_take] at r2
      exact lt_line (by omega)
    refine ⟨_, _, _, rfl, fun c o hc n => ?_, ?_, ?_⟩
    · rw [upd_ne (fun e => by rw [e, nds a am] at hc; cases hc)]
      exact k5 c o hc n
    · rw [upd_ne nax]
      exact hx5
    · rw [← take_snoc hqi]
      exact T5.put R.nd gz hjn hjd r1
  · rintro σ H5 ⟨x4, x5, x6, rfl, k5, hx5, T5⟩
    rw [ls, List.take_length] at T5
    refine key H5 k5 ⟨dx, b, q, D, us, ds, hx5, hB.kx hx k5, k5 _ _ hq (ne_of hq hx (fun e => nomatch e)), hS.keep fun t ys h => k5 _ _ h (ne_of h hx (fun e => nomatch e)), T5⟩
end
end Sh
end
section
set_option Elab.async false
set_option linter.all false
set_option maxRecDepth 100000
set_option maxHeartbeats 2000000
set_option autoImplicit false
namespace L2
open PySem PySem.Spec PyProof.Rows
section
variable {X : Cx} {CX : CXT} {k : Nat} {f C : Addr} {sp : Sp} {E : St → XK} {x : Str} {e : Expr} {es : List Expr} {t : TA} {p pos : Pos}
theorem run_makeS {pins : List (Addr × Obj)} {σ : L2.St} {H : Hp} {s : Shared} {Q : VK} {us : List Value} {vs : List V} {E : XK} (M : Mk X.K C f) (F : FnR X.prog X.w X.K X.mg X.base CX k f sp) (hr : Room (k + 1) X.A) (hx : PassesAt CX X σ E) (I : Inv X pins σ H s) (r : Vals vs us)
    (h : ∀ x dx, H x = Option.none → H dx = Option.none → dx ≠ x → sp (V.ref x :: vs) (upd (upd H dx (.own x)) x (.ins C dx [])) (fun v H2 => v = .non ∧ Q (.ref x) H2) E) :
    wpAny (model X.prog X.w) X.A (call (.ref C) us) (EP X pins σ Q) X.xe s := by
  have hq := h (s.heap.objs.size + 1) s.heap.objs.size (I.hok.fresh (Nat.le_succ _)) (I.hok.fresh (Nat.le_refl _)) (Nat.ne_of_lt (Nat.lt_succ_self _))
  have I2 := Inv.made (C := C) I
  have r2 : Vals (V.ref (s.heap.objs.size + 1) :: vs) (Value.ref (s.heap.objs.size + 1) :: us) := .cons rfl r
  refine wpAny_call (make_map (f := f) I.kIn M.makes M.init (beq_iff_eq.mp M.fn) (codeAny_mono (F _ X.stack _ _ (Value.ref (s.heap.objs.size + 1) :: us) _ _ E (hr.make C us []) (I2.env0.make C us []) r2 hq) fun r s' hq' => ?_))
  cases r with
  | error e => exact hx pins _ _ e s' I2 hq'
  | ok fl =>
    cases fl with
    | ret u =>
      obtain ⟨v, H', I3, rv, ev, q3⟩ := I2.after hq'
      subst ev
      exact ⟨rv, ⟨V.ref (s.heap.objs.size + 1), H', I3, rfl, q3⟩⟩
    | next => exact False.elim hq'
    | brk => exact False.elim hq'
    | cont => exact False.elim hq'
end
section
variable {X : Cx} {CX : CXT} {k : Nat} {f C : Addr} {sp : V → Sp} {E : St → XK} {x kn : Str} {e : Expr} {es : List Expr} {t tk : TA} {p pos : Pos} {kws : List Keyword}
end
end L2
end
section
set_option Elab.async false
set_option linter.all false
set_option maxRecDepth 100000
set_option maxHeartbeats 4000000
namespace Sh
open PySem PySem.Spec PyProof.Rows L2
open C8 (pss_cut tCut)
open Evl (ixN_nat)
/-- the exception classes, where they are caught -/
structure XcP (K : PySem.W.Frag) (mg : Str → Option Value) (A : XA) (AI CY : Addr) : Prop where
  y : mg "YardError" = some (.ref CY)
  exI : ExcD K AI
  oI : XOk K AI ["place"]
  oP : XOk K A.P ["place"]
  kY : PySem.W.kitOne K (.ref AI) (.ref CY) = some true
  kV : PySem.W.kitOne K (.ref AI) (.type "ValueError") = some true
  kP : PySem.W.kitOne K (.ref AI) (.ref A.P) = some false
def spPrS (C CP AI : Addr) : Sp := fun vs H Q E => ∃ ws rest, vs = ws ++ rest ∧ ws.length = (["self", "bed", "cutting"] : List Str).length ∧ rest.length ≤ sizeLine ∧ ∀ p, H p = Option.none → spPrI C CP AI (ws ++ [V.ref p]) (upd H p (.tup rest)) Q E
def PricesC (P : Program) (w : World) (K : PySem.W.Frag) (mg : Str → Option Value) (base : Heap) (C CP AI : Addr) (k : Nat) : Prop := mg "Prices" = some (.ref CP) ∧ ∃ fI, Mk K CP fI ∧ FnR P w K mg base (L2.CX P w) k fI (spPrS C CP AI)
/-- what a call of the class does -/
def PrcE (C CP AI : Addr) (rows : List Row) (cut : Int) (sws : List Swap) (H : Hp) (Q : VK) (E : XK) : Prop := (∀ e, FstF rows cut sws e → e ≠ -2 → RzP AI E H e) ∧ (FstF rows cut sws (-2) → ∀ H' p, Same H H' → H p = none → PrcAt C CP H' p rows cut sws → Q (.ref p) H')
def spPrc (C CP AI : Addr) : Sp := fun vs H Q E => ∃ (b : Addr) (cut : Int) (us : List Addr) (rows : List Row) (sws : List Swap), vs = .ref b :: .int cut :: us.map V.ref ∧ PlAt swV H us sws ∧ BedAt C H b rows ∧ ROk 4 rows ∧ sws.length ≤ 6 ∧ PrcE C CP AI rows cut sws H Q E
theorem pe_prices {X : Cx} {C CP AI : Addr} {k : Nat} {E : L2.St → XK} {e : Expr} {es : List Expr} {t : TA} {p pos : Pos} (D : PricesC X.prog X.w X.K X.mg X.base C CP AI k) (hr : Room (k + 1) X.A) (hx : ∀ σ, PassesAt (L2.CX X.prog X.w) X σ (E σ)) (ha : PA X (e :: es) t) (hg : Gl X "Prices" := by rfl)
    (he : starEach (e :: es) X.env = (false, eval e X.env) :: starEach es X.env := by rfl) (hpl : (backTo pos (starEach es X.env)).any (·.1) = false := by rfl) :
    PE X (.Call (.Name "Prices" p) (e :: es) [] pos) (tCallS (spPrc C CP AI) E t) := by
  obtain ⟨hm, fI, M, F⟩ := D
  refine ⟨fun pins s σ H Q I h => ?_⟩
  refine wpAny_Call_Name_kw (ld_glob I hg hm ?_ (by decide))
  refine PySem.W.callWith_K (h₀ := X.base) I.ok.mod.kin M.kp (thn (ha.run pos pins s σ H _ I h) fun us s1 ⟨vs, H1, I1, r, q⟩ => ⟨I1.kIn, ?_⟩) he hpl
  refine run_makeS M F hr (hx σ) I1 r fun x dx hx hd hxd => ?_
  obtain ⟨b, cut, us, rows, sws, rfl, hS, hB, R, h6, kx, key⟩ := q
  have s1 : Same H1 (upd (upd H1 dx (.own x)) x (.ins CP dx [])) := ((Same.refl H1).upd_new hd).upd_own hx
  refine ⟨[.ref x, .ref b, .int cut], us.map V.ref, rfl, rfl, ?_, fun p hp => ?_⟩
  · rw [List.length_map, hS.1]
    exact le_line (by omega)
  have s2 := s1.upd_new (o := .tup (us.map V.ref)) hp
  have nxp : x ≠ p := ne_of_none (upd_same (H := upd H1 dx (.own x)) (a := x)) hp
  refine ⟨x, dx, b, p, cut, us, rows, sws, rfl, by rw [upd_ne nxp, upd_same], hB.same s2, R, upd_same, hS.keep (fun t ys h => s2 _ _ h), h6, fun e he hn => (kx e he hn).same s2, fun he H' kk y => ⟨rfl, ?_⟩⟩
  exact key he H' x (fun b o hb => kk b o (s2 b o hb) (ne_of_none hb hx)) hx y
def spMkPr (C CP AI : Addr) : Sp := fun vs H Q E => ∃ (b l : Addr) (cut : Int) (rows : List Row) (sws : List Swap), vs = [.ref b, .int cut, .ref l] ∧ SwsAt H l sws ∧ BedAt C H b rows ∧ ROk 4 rows ∧ sws.length ≤ 6 ∧ PrcE C CP AI rows cut sws H Q E
abbrev N_law_made_prices : List Str := ["bed", "cutting", "swaps"]
theorem sc_law_made_prices : FnScope N_law_made_prices ["bed", "cutting", "swaps"] (defScope s_law_made_prices) := ⟨rfl, rfl, rfl, by decide +kernel, rfl, by decide +kernel, by decide +kernel⟩
section
variable {P : Program} {w : World} {K : PySem.W.Frag} {mg : Str → Option Value} {base : Heap} {C CP AI CY : Addr} {A : XA}
theorem ok_mkpr (T : Bp mg) (c_Prices : PricesC P w K mg base C CP AI 4) (D : Def0 K mg "_law_made_prices" s_law_made_prices) : DefOk P w K mg base (L2.CX P w) 6 "_law_made_prices" (spMkPr C CP AI) := by
  refine D.okX sc_law_made_prices (fun vs H Q E h => ?_) (fun _ _ _ _ _ _ us hl => match us, hl with | [_, _, _], _ => rfl) (fun f cdv A' outer s H vs Q E hr h => ?_)
  · obtain ⟨b, l, cut, rows, sws, rfl, _⟩ := h
    rfl
  · obtain ⟨b, l, cut, rows, sws, rfl, ⟨us, hl, hS⟩, hB, R, h6, k⟩ := h
    refine ⟨_, (pss_cons (ps_if (pt_cmpR op_eq (pe_callB call_len_seq (by rfl) T.b_len boot_len (pa_cons (pv 2) pa_nil)) pe_int (nomark _))
        (pss_one (ps_ret (pe_prices c_Prices (hr.mono (by decide)) (fun σ pins H s e s' I c => (passes_call (takes_of rfl rfl rfl rfl) fun _ _ _ _ h => h) pins σ H s e s' I c) (pa_cons (pv 0) (pa_cons (pv 1) pa_nil)))))
        pss_nil)
      (pss_cons (ps_if (pt_cmpR op_eq (pe_callB call_len_seq (by rfl) T.b_len boot_len (pa_cons (pv 2) pa_nil)) pe_int (nomark _))
        (pss_one (ps_ret (pe_prices c_Prices (hr.mono (by decide)) (fun σ pins H s e s' I c => (passes_call (takes_of rfl rfl rfl rfl) fun _ _ _ _ h => h) pins σ H s e s' I c) (pa_cons (pv 0) (pa_cons (pv 1) (pa_cons (pe_ix ix_list (pv 2) pe_int (fun _ _ => rfl)) pa_nil))))))
        pss_nil)
      (pss_cons (ps_if (pt_cmpR op_eq (pe_callB call_len_seq (by rfl) T.b_len boot_len (pa_cons (pv 2) pa_nil)) pe_int (nomark _))
        (pss_one (ps_ret (pe_prices c_Prices (hr.mono (by decide)) (fun σ pins H s e s' I c => (passes_call (takes_of rfl rfl rfl rfl) fun _ _ _ _ h => h) pins σ H s e s' I c) (pa_cons (pv 0) (pa_cons (pv 1) (pa_cons (pe_ix ix_list (pv 2) pe_int (fun _ _ => rfl)) (pa_cons (pe_ix ix_list (pv 2) pe_int (fun _ _ => rfl)) pa_nil)))))))
        pss_nil)
      (pss_cons (ps_if (pt_cmpR op_eq (pe_callB call_len_seq (by rfl) T.b_len boot_len (pa_cons (pv 2) pa_nil)) pe_int (nomark _))
        (pss_one (ps_ret (pe_prices c_Prices (hr.mono (by decide)) (fun σ pins H s e s' I c => (passes_call (takes_of rfl rfl rfl rfl) fun _ _ _ _ h => h) pins σ H s e s' I c) (pa_cons (pv 0) (pa_cons (pv 1) (pa_cons (pe_ix ix_list (pv 2) pe_int (fun _ _ => rfl)) (pa_cons (pe_ix ix_list (pv 2) pe_int (fun _ _ => rfl)) (pa_cons (pe_ix ix_list (pv 2) pe_int (fun _ _ => rfl)) pa_nil))))))))
        pss_nil)
      (pss_cons (ps_if (pt_cmpR op_eq (pe_callB call_len_seq (by rfl) T.b_len boot_len (pa_cons (pv 2) pa_nil)) pe_int (nomark _))
        (pss_one (ps_ret (pe_prices c_Prices (hr.mono (by decide)) (fun σ pins H s e s' I c => (passes_call (takes_of rfl rfl rfl rfl) fun _ _ _ _ h => h) pins σ H s e s' I c) (pa_cons (pv 0) (pa_cons (pv 1) (pa_cons (pe_ix ix_list (pv 2) pe_int (fun _ _ => rfl)) (pa_cons (pe_ix ix_list (pv 2) pe_int (fun _ _ => rfl)) (pa_cons (pe_ix ix_list (pv 2) pe_int (fun _ _ => rfl)) (pa_cons (pe_ix ix_list (pv 2) pe_int (fun _ _ => rfl)) pa_nil)))))))))
        pss_nil)
      (pss_cons (ps_if (pt_cmpR op_eq (pe_callB call_len_seq (by rfl) T.b_len boot_len (pa_cons (pv 2) pa_nil)) pe_int (nomark _))
        (pss_one (ps_ret (pe_prices c_Prices (hr.mono (by decide)) (fun σ pins H s e s' I c => (passes_call (takes_of rfl rfl rfl rfl) fun _ _ _ _ h => h) pins σ H s e s' I c) (pa_cons (pv 0) (pa_cons (pv 1) (pa_cons (pe_ix ix_list (pv 2) pe_int (fun _ _ => rfl)) (pa_cons (pe_ix ix_list (pv 2) pe_int (fun _ _ => rfl)) (pa_cons (pe_ix ix_list (pv 2) pe_int (fun _ _ => rfl)) (pa_cons (pe_ix ix_list (pv 2) pe_int (fun _ _ => rfl)) (pa_cons (pe_ix ix_list (pv 2) pe_int (fun _ _ => rfl)) pa_nil))))))))))
        pss_nil)
      (pss_one (ps_ret (pe_prices c_Prices (hr.mono (by decide)) (fun σ pins H s e s' I c => (passes_call (takes_of rfl rfl rfl rfl) fun _ _ _ _ h => h) pins σ H s e s' I c) (pa_cons (pv 0) (pa_cons (pv 1) (pa_cons (pe_ix ix_list (pv 2) pe_int (fun _ _ => rfl)) (pa_cons (pe_ix ix_list (pv 2) pe_int (fun _ _ => rfl)) (pa_cons (pe_ix ix_list (pv 2) pe_int (fun _ _ => rfl)) (pa_cons (pe_ix ix_list (pv 2) pe_int (fun _ _ => rfl)) (pa_cons (pe_ix ix_list (pv 2) pe_int (fun _ _ => rfl)) (pa_cons (pe_ix ix_list (pv 2) pe_int (fun _ _ => rfl)) pa_nil))))))))))))))))), ?_⟩
    have l6 : us.length ≤ 6 := by rw [hS.1]; exact h6
    match us, l6 with
    | [], _ =>
      refine ⟨_, rfl, l, _, rfl, .inl (SqL.of hl), rfl, _, rfl, ifp (by simp) ?_⟩
      exact ⟨_, rfl, _, rfl, b, cut, [], rows, sws, rfl, hS, hB, R, h6, k⟩
    | [t0], _ =>
      refine ⟨_, rfl, l, _, rfl, .inl (SqL.of hl), rfl, _, rfl, ifn (fun e => by simp at e) ?_⟩
      refine ⟨_, rfl, l, _, rfl, .inl (SqL.of hl), rfl, _, rfl, ifp (by simp) ?_⟩
      exact ⟨_, rfl, _, rfl, _, rfl, l, _, _, _, rfl, rfl, SqL.of hl, atI_nat (j := 0) rfl, b, cut, [t0], rows, sws, rfl, hS, hB, R, h6, k⟩
    | [t0, t1], _ =>
      refine ⟨_, rfl, l, _, rfl, .inl (SqL.of hl), rfl, _, rfl, ifn (fun e => by simp at e) ?_⟩
      refine ⟨_, rfl, l, _, rfl, .inl (SqL.of hl), rfl, _, rfl, ifn (fun e => by simp at e) ?_⟩
      refine ⟨_, rfl, l, _, rfl, .inl (SqL.of hl), rfl, _, rfl, ifp (by simp) ?_⟩
      exact ⟨_, rfl, _, rfl, _, rfl, l, _, _, _, rfl, rfl, SqL.of hl, atI_nat (j := 0) rfl, _, rfl, l, _, _, _, rfl, rfl, SqL.of hl, atI_nat (j := 1) rfl, b, cut, [t0, t1], rows, sws, rfl, hS, hB, R, h6, k⟩
    | [t0, t1, t2], _ =>
      refine ⟨_, rfl, l, _, rfl, .inl (SqL.of hl), rfl, _, rfl, ifn (fun e => by simp at e) ?_⟩
      refine ⟨_, rfl, l, _, rfl, .inl (SqL.of hl), rfl, _, rfl, ifn (fun e => by simp at e) ?_⟩
      refine ⟨_, rfl, l, _, rfl, .inl (SqL.of hl), rfl, _, rfl, ifn (fun e => by simp at e) ?_⟩
      refine ⟨_, rfl, l, _, rfl, .inl (SqL.of hl), rfl, _, rfl, ifp (by simp) ?_⟩
      exact ⟨_, rfl, _, rfl, _, rfl, l, _, _, _, rfl, rfl, SqL.of hl, atI_nat (j := 0) rfl, _, rfl, l, _, _, _, rfl, rfl, SqL.of hl, atI_nat (j := 1) rfl, _, rfl, l, _, _, _, rfl, rfl, SqL.of hl, atI_nat (j := 2) rfl, b, cut, [t0, t1, t2], rows, sws, rfl, hS, hB, R, h6, k⟩
    | [t0, t1, t2, t3], _ =>
      refine ⟨_, rfl, l, _, rfl, .inl (SqL.of hl), rfl, _, rfl, ifn (fun e => by simp at e) ?_⟩
      refine ⟨_, rfl, l, _, rfl, .inl (SqL.of hl), rfl, _, rfl, ifn (fun e => by simp at e) ?_⟩
      refine ⟨_, rfl, l, _, rfl, .inl (SqL.of hl), rfl, _, rfl, ifn (fun e => by simp at e) ?_⟩
      refine ⟨_, rfl, l, _, rfl, .inl (SqL.of hl), rfl, _, rfl, ifn (fun e => by simp at e) ?_⟩
      refine ⟨_, rfl, l, _, rfl, .inl (SqL.of hl), rfl, _, rfl, ifp (by simp) ?_⟩
      exact ⟨_, rfl, _, rfl, _, rfl, l, _, _, _, rfl, rfl, SqL.of hl, atI_nat (j := 0) rfl, _, rfl, l, _, _, _, rfl, rfl, SqL.of hl, atI_nat (j := 1) rfl, _, rfl, l, _, _, _, rfl, rfl, SqL.of hl, atI_nat (j := 2) rfl, _, rfl, l, _, _, _, rfl, rfl, SqL.of hl, atI_nat (j := 3) rfl, b, cut, [t0, t1, t2, t3], rows, sws, rfl, hS, hB, R, h6, k⟩
    | [t0, t1, t2, t3, t4], _ =>
      refine ⟨_, rfl, l, _, rfl, .inl (SqL.of hl), rfl, _, rfl, ifn (fun e => by simp at e) ?_⟩
      refine ⟨_, rfl, l, _, rfl, .inl (SqL.of hl), rfl, _, rfl, ifn (fun e => by simp at e) ?_⟩
      refine ⟨_, rfl, l, _, rfl, .inl (SqL.of hl), rfl, _, rfl, ifn (fun e => by simp at e) ?_⟩
      refine ⟨_, rfl, l, _, rfl, .inl (SqL.of hl), rfl, _, rfl, ifn (fun e => by simp at e) ?_⟩
      refine ⟨_, rfl, l, _, rfl, .inl (SqL.of hl), rfl, _, rfl, ifn (fun e => by simp at e) ?_⟩
      refine ⟨_, rfl, l, _, rfl, .inl (SqL.of hl), rfl, _, rfl, ifp (by simp) ?_⟩
      exact ⟨_, rfl, _, rfl, _, rfl, l, _, _, _, rfl, rfl, SqL.of hl, atI_nat (j := 0) rfl, _, rfl, l, _, _, _, rfl, rfl, SqL.of hl, atI_nat (j := 1) rfl, _, rfl, l, _, _, _, rfl, rfl, SqL.of hl, atI_nat (j := 2) rfl, _, rfl, l, _, _, _, rfl, rfl, SqL.of hl, atI_nat (j := 3) rfl, _, rfl, l, _, _, _, rfl, rfl, SqL.of hl, atI_nat (j := 4) rfl, b, cut, [t0, t1, t2, t3, t4], rows, sws, rfl, hS, hB, R, h6, k⟩
    | [t0, t1, t2, t3, t4, t5], _ =>
      refine ⟨_, rfl, l, _, rfl, .inl (SqL.of hl), rfl, _, rfl, ifn (fun e => by simp at e) ?_⟩
      refine ⟨_, rfl, l, _, rfl, .inl (SqL.of hl), rfl, _, rfl, ifn (fun e => by simp at e) ?_⟩
      refine ⟨_, rfl, l, _, rfl, .inl (SqL.of hl), rfl, _, rfl, ifn (fun e => by simp at e) ?_⟩
      refine ⟨_, rfl, l, _, rfl, .inl (SqL.of hl), rfl, _, rfl, ifn (fun e => by simp at e) ?_⟩
      refine ⟨_, rfl, l, _, rfl, .inl (SqL.of hl), rfl, _, rfl, ifn (fun e => by simp at e) ?_⟩
      refine ⟨_, rfl, l, _, rfl, .inl (SqL.of hl), rfl, _, rfl, ifn (fun e => by simp at e) ?_⟩
      exact ⟨_, rfl, _, rfl, _, rfl, l, _, _, _, rfl, rfl, SqL.of hl, atI_nat (j := 0) rfl, _, rfl, l, _, _, _, rfl, rfl, SqL.of hl, atI_nat (j := 1) rfl, _, rfl, l, _, _, _, rfl, rfl, SqL.of hl, atI_nat (j := 2) rfl, _, rfl, l, _, _, _, rfl, rfl, SqL.of hl, atI_nat (j := 3) rfl, _, rfl, l, _, _, _, rfl, rfl, SqL.of hl, atI_nat (j := 4) rfl, _, rfl, l, _, _, _, rfl, rfl, SqL.of hl, atI_nat (j := 5) rfl, b, cut, [t0, t1, t2, t3, t4, t5], rows, sws, rfl, hS, hB, R, h6, k⟩
    | _ :: _ :: _ :: _ :: _ :: _ :: _ :: _, h => exact absurd h (by simp)
end
end Sh
end
section
set_option Elab.async false
set_option linter.all false
set_option maxRecDepth 100000
set_option maxHeartbeats 4000000
namespace Sh
open PySem PySem.Spec PyProof.Rows L2
open C8 (pss_cut tCut)
open Evl (ixN_nat)
theorem eqv_rows : ∀ rows : List Row, PyData.eqvAll (rows.map rowD) (rows.map rowD) = true
  | [] => rfl
  | q :: r => by
    rw [List.map_cons, PyData.eqvAll, eqv_rows r, Bool.and_true]
    simp [rowD, PyData.eqv, PyData.eqvAll]
theorem shp_tup {ds : List PyData} (h : SeqAt.shaped (.list ds) = true) : SeqAt.shaped (.tuple ds) = true := by
  unfold SeqAt.shaped at h ⊢
  rw [PyData.canLay0, PyData.depth] at h
  rw [PyData.canLay0, PyData.depth]
  exact h
def spSmB (C : Addr) : Sp := fun vs H Q _ => ∃ (a b : Addr) (rows : List Row), vs = [.ref a, .ref b] ∧ BedAt C H a rows ∧ BedAt C H b rows ∧ ROk 8 rows ∧ Q (.bl true) H
def SmOk (P : Program) (w : World) (K : PySem.W.Frag) (mg : Str → Option Value) (base : Heap) (C : Addr) : Prop := ∃ f, Meth K C "same" f ∧ FnR P w K mg base CX0 1 f (spSmB C)
theorem lk_same (r k w rk : Addr) : (bedF r k w rk).lookup ("same" : Str) = none := by
  have n : ¬ ("same" : Str) = "rows" ∧ ¬ ("same" : Str) = "kinds" ∧ ¬ ("same" : Str) = "widths" ∧ ¬ ("same" : Str) = "ranks" := by decide +kernel
  simp [bedF, List.lookup, n, beq_eq_false_iff_ne.mpr]
theorem SwsAt.same {H H' : Hp} {p : Addr} {sws : List Swap} (x : SwsAt H p sws) (s : Same H H') : SwsAt H' p sws := by
  obtain ⟨ts, h1, h2⟩ := x
  exact ⟨ts, s _ _ h1, h2.keep fun _ _ h => s _ _ h⟩
abbrev N_same : List Str := ["self", "other"]
theorem sc_same : FnScope N_same ["self", "other"] (defScope s_same) := ⟨rfl, rfl, rfl, by decide +kernel, rfl, by decide +kernel, by decide +kernel⟩
section
variable {P : Program} {w : World} {K : PySem.W.Frag} {mg : Str → Option Value} {base : Heap} {C CP : Addr}
theorem ok_same (B : BedT K C) {f : Addr} {fd : FuncData} (F : FunD K "same" "Bed.same" (defArgs s_same) (defBody s_same) (defScope s_same) [] [] f fd) (M : Meth K C "same" f) : SmOk P w K mg base C := by
  have G : FnOk P w K mg base CX0 1 f fd ["self", "other"] (spSmB C) := F.ok sc_same (fun vs H Q E h => by obtain ⟨a, b, rows, rfl, _⟩ := h; rfl) fun cdv A outer s H vs Q E hr h => by
    obtain ⟨a, b, rows, rfl, hA, hB, R, k⟩ := h
    obtain ⟨dx, r, kk, ww, rk, ts, h1, h2, h3, h4, h5, h6⟩ := hA
    obtain ⟨dx', r', kk', ww', rk', ts', h1', h2', h3', h4', h5', h6'⟩ := hB
    refine ⟨_, (pss_one (ps_ret (pe_cmpR (op_eqD hr.units) (pe_fld (pv 0) rfl) (pe_fld (pv 1) rfl) (nomark _)))), ?_⟩
    refine ⟨_, rfl, a, C, dx, _, _, rfl, h1, B.cl, B.nR, lk_rows _ _ _ _, _, rfl, b, C, dx', _, _, rfl, h1', B.cl, B.nR, lk_rows _ _ _ _, ?_⟩
    have dp : ∀ {r : Addr} {ts : List Addr}, H r = some (.tup (ts.map V.ref)) → TupsAt H ts rows → Dp K H (.ref r) (.tuple (rows.map rowD)) := fun {r ts} h x =>
      .tup (SqT.of h) (dpa_of (by rw [List.length_map]; exact x.1) fun i v q hv hq => by
        obtain ⟨t, ht, rfl⟩ := get_map hv
        exact .tup (SqT.of (x.2 i t q ht hq)) (.cons (.str _) (.cons (.int _) .nil)))
    have so : SeqAt.shaped (.tuple (rows.map rowD)) = true := shp_tup (shp_rows fun q hq => nm_ok (R.nm q hq))
    refine ⟨_, _, dp h2 h3, dp h2' h3', so, so, ?_⟩
    rw [PyData.eqv, eqv_rows]
    exact k
  refine ⟨f, M, fun A' outer s H us vs Q E hr e0 r hs => G.raw (F.bindsN fun _ _ _ _ _ _ us hl => match us, hl with | [_, _], _ => rfl) .nil A' outer s H us vs Q E hr e0 r (by show spSmB C (vs ++ []) H Q E; rw [List.append_nil]; exact hs)⟩
end
end Sh
end
section
set_option Elab.async false
set_option linter.all false
set_option maxRecDepth 100000
set_option maxHeartbeats 4000000
namespace Pr
open PySem
abbrev O := Option Int
def oadd : O → O → O
  | some a, some b => some (a + b)
  | _, _ => none
/-- the price of a knot that stands -/
def fin (cut : Int) (k : Nat) (c : Int) : Int := if k = 0 then min c cut else c
section
variable {α : Type} (w : α → Nat) (sw : α → α → O) (cut : Int)
/-- n trees of the one row against n trees of the other -/
def wk : List α → List α → Nat → O
  | _, _, 0 => some 0
  | z :: r, y :: o, n + 1 => match sw z y with
    | some c => oadd (some (fin cut (w y) c)) (wk r o (w y + n))
    | none => if w y = 0 then oadd (some cut) (wk (Mth.skip w (z :: r) 1) o n) else none
  | [], _, _ + 1 => none
  | _ :: _, [], _ + 1 => none
section
variable {l o : List α} {p q : Nat} {z y : α}
/-- the size of the tree at p -/
def size (l : List α) (p : Nat) : Nat := Mth.nxs w l p 1 - p
/-- the branches that face each other -/
def chs (l o : List α) (p q n : Nat) : List (Nat × Nat) := (List.range n).map fun j => (Mth.nxs w l (p + 1) j, Mth.nxs w o (q + 1) j)
def sizes (l : List α) (ps : List (Nat × Nat)) : Nat := (ps.map fun s => size w l s.1).sum
end
end
end Pr
end
section
set_option Elab.async false
set_option linter.all false
set_option maxRecDepth 100000
set_option maxHeartbeats 4000000
namespace Sh
open PySem PySem.Spec PyProof.Rows L2
open C8 (pss_cut tCut)
open Evl (ixN_nat)
/-- a row of kinds -/
def KsOk (rows : List Row) (m : Nat) (l : List Str) : Prop := 1 ≤ l.length ∧ l.length ≤ m ∧ ∀ z ∈ l, HasN rows z
def spPlant51 : Sp := fun vs H Q _ => ∃ (x r : Addr) (m : Nat) (rows : List Row), vs = [.ref x, .ref r, .int (m : Nat)] ∧ BxAt H x ∧ RowsAt H r rows ∧ ROk 4 rows ∧ 1 ≤ m ∧ m ≤ 9 ∧ ∀ (H' : Hp) (p : Addr) (l : List Str), Kp x H H' → BxAt H' x → Tq H' p (sV l) → KsOk rows m l → Q (.ref p) H'
theorem BxAt.nrows {H : Hp} {x r : Addr} {rows : List Row} (b : BxAt H x) (h : RowsAt H r rows) : r ≠ x := by
  obtain ⟨ts, h, _⟩ := h
  exact b.nref h
theorem RowsAt.kp {H H' : Hp} {x r : Addr} {rows : List Row} (h : RowsAt H r rows) (b : BxAt H x) (k : Kp x H H') : RowsAt H' r rows := by
  have n := b.nrows h
  obtain ⟨ts, h1, h2⟩ := h
  exact ⟨ts, k _ _ h1 n, h2.keep (b.tk k)⟩
theorem tqk {H H' : Hp} {x t : Addr} {xs : List V} (h : Tq H t xs) (b : BxAt H x) (k : Kp x H H') : Tq H' t xs := by
  obtain ⟨za, zb, hz⟩ := b
  rcases h with h | ⟨o, h⟩
  · exact .inl (k _ _ h (ne_of h hz (fun e => nomatch e)))
  · exact .inr ⟨o, k _ _ h (ne_of h hz (fun e => nomatch e))⟩
/-- one of the rows, drawn -/
theorem RowsAt.pick {H : Hp} {r : Addr} {rows : List Row} (h : RowsAt H r rows) (d : Int) (h0 : 0 ≤ d) (h1 : d < (rows.length : Nat)) : ∃ (ts : List Addr) (t : Addr) (q : Row), H r = some (.lst (ts.map V.ref)) ∧ atI (ts.map V.ref) d = some (V.ref t) ∧ H t = some (.tup [.str q.1, .int q.2]) ∧ q ∈ rows := by
  obtain ⟨ts, h2, h3⟩ := h
  have hd : d.toNat < rows.length := by omega
  have ht : d.toNat < ts.length := by rw [h3.1]; exact hd
  exact ⟨ts, ts[d.toNat], rows[d.toNat], h2, at_ofG (j := d.toNat) (by omega) (by rw [List.getElem?_map, List.getElem?_eq_getElem ht]; rfl), h3.2 d.toNat _ _ (List.getElem?_eq_getElem ht) (List.getElem?_eq_getElem hd), List.getElem_mem hd⟩
theorem RowsAt.len {K : PySem.W.Frag} {H : Hp} {r : Addr} {rows : List Row} (h : RowsAt H r rows) : ∃ xs, SqL K H r xs ∧ xs.length = rows.length := by
  obtain ⟨ts, h2, h3⟩ := h
  exact ⟨_, SqL.of h2, by rw [List.length_map, h3.1]⟩
theorem TupsAt.nil {H : Hp} : TupsAt H [] [] := ⟨rfl, fun i t q a => by simp at a⟩
theorem RowsAt.sub {H H' : Hp} {r : Addr} {rows : List Row} (h : RowsAt H r rows) (s : Same H H') : RowsAt H' r rows := by
  obtain ⟨ts, h1, h2⟩ := h
  exact ⟨ts, s _ _ h1, h2.keep (TK.of_same s)⟩
theorem RowsAt.updl {H : Hp} {r l : Addr} {rows : List Row} {ys zs : List V} (h : RowsAt H r rows) (n : r ≠ l) (hl : H l = some (.lst ys)) : RowsAt (upd H l (.lst zs)) r rows := by
  obtain ⟨ts, h1, h2⟩ := h
  exact ⟨ts, by rw [upd_ne n]; exact h1, h2.keep (TK.lst hl)⟩
/-- one step of [q for q in rows if P q] -/
def FilAt (H H' : Hp) (D : Addr) (rows : List Row) : Prop := Same H H' ∧ ∃ fs : List Addr, H' D = some (.lst (fs.map V.ref)) ∧ TupsAt H' fs rows
theorem FilAt.start {H : Hp} {D : Addr} (h : H D = none) : FilAt H (upd H D (.lst [])) D [] := ⟨(Same.refl H).upd_new h, [], upd_same, .nil⟩
theorem FilAt.yes {H H1 : Hp} {D t : Addr} {rows : List Row} {P : Row → Bool} {i : Nat} {q : Row} (hD : H D = none) (x : FilAt H H1 D ((rows.take i).filter P)) (hq : rows[i]? = some q) (ht : H1 t = some (.tup [.str q.1, .int q.2])) (hP : P q = true) :
    ∃ fs : List Addr, H1 D = some (.lst (fs.map V.ref)) ∧ fs.length ≤ i ∧ FilAt H (upd H1 D (.lst (fs.map V.ref ++ [.ref t]))) D ((rows.take (i + 1)).filter P) := by
  obtain ⟨s1, fs, d1, f1⟩ := x
  have tk : TK H1 (upd H1 D (.lst (fs.map V.ref ++ [.ref t]))) := fun u ys h => by
    rw [upd_ne (fun e => by rw [e, d1] at h; cases h)]
    exact h
  refine ⟨fs, d1, ?_, s1.upd_own hD, fs ++ [t], by rw [upd_same, List.map_append]; rfl, ?_⟩
  · rw [f1.1]
    refine Nat.le_trans (List.length_filter_le _ _) ?_
    rw [List.length_take]
    omega
  · rw [← take_snoc hq, List.filter_append, List.filter_cons_of_pos hP]
    exact (f1.keep tk).snoc (tk _ _ ht)
theorem FilAt.no {H H1 : Hp} {D : Addr} {rows : List Row} {P : Row → Bool} {i : Nat} {q : Row} (x : FilAt H H1 D ((rows.take i).filter P)) (hq : rows[i]? = some q) (hP : ¬ P q = true) : FilAt H H1 D ((rows.take (i + 1)).filter P) := by
  rw [← take_snoc hq, List.filter_append, List.filter_cons_of_neg hP, List.filter_nil, List.append_nil]
  exact x
def p0 (q : Row) : Bool := decide (q.2 = 0)
def p1 (q : Row) : Bool := decide (0 < q.2)
abbrev N_law_plant : List Str := ["box", "kinds", "room", "tips", "inner", "row", "gap", "turn", "pair"]
theorem sc_law_plant : FnScope N_law_plant ["box", "kinds", "room"] (defScope s_law_plant) := ⟨rfl, rfl, rfl, by decide +kernel, rfl, by decide +kernel, by decide +kernel⟩
section
variable {P : Program} {w : World} {K : PySem.W.Frag} {mg : Str → Option Value} {base : Heap}
theorem ok_plant51 (T : Bl mg) (c_law_pick : DefOk P w K mg base CX0 1 "_law_pick" spPick51) (D : Def0 K mg "_law_plant" s_law_plant) : DefOk P w K mg base CX0 2 "_law_plant" spPlant51 := by
  refine D.ok sc_law_plant (fun vs H Q E h => ?_) (fun _ _ _ _ _ _ us hl => match us, hl with | [_, _, _], _ => rfl) (fun f cdv A outer s' H vs Q E hr h => ?_)
  · obtain ⟨x, r, m, rows, rfl, _⟩ := h
    rfl
  · obtain ⟨x, r, m, rows, rfl, hx, hR, R, m1, m9, key⟩ := h
    have r1 := R.pos
    have r4 := R.len
    obtain ⟨ts, hr1, hT⟩ := hR
    have lt : (ts.map V.ref).length = rows.length := by rw [List.length_map, hT.1]
    refine ⟨_, (pss_cons (ps_setLc (i := 3) (own := [("pair", 8)]) (g := (gName 8)) rfl sc_law_plant.nd rfl rfl (sw_true rfl rfl rfl (by decide +kernel)) (pi_list (pv 1)) (blkOk_by (N := N_law_plant) (sc := defScope s_law_plant) (by decide +kernel)) (fun _ _ _ _ _ => (pg_name (i := 8) sc_law_plant.nd rfl (Or.inl rfl))) (fun _ _ _ _ _ => (pts_one (pt_cmpR op_eq (pe_ix (show IxR _ (rIxT K) from ix_tup) (pv 8) pe_int (fun _ _ => rfl)) pe_int (nomark _)))) (fun _ _ _ _ _ => (pv 8)))
      (pss_cons (ps_setLc (i := 4) (own := [("pair", 8)]) (g := (gName 8)) rfl sc_law_plant.nd rfl rfl (sw_true rfl rfl rfl (by decide +kernel)) (pi_list (pv 1)) (blkOk_by (N := N_law_plant) (sc := defScope s_law_plant) (by decide +kernel)) (fun _ _ _ _ _ => (pg_name (i := 8) sc_law_plant.nd rfl (Or.inl rfl))) (fun _ _ _ _ _ => (pts_one (pt_cmpR op_gt (pe_ix (show IxR _ (rIxT K) from ix_tup) (pv 8) pe_int (fun _ _ => rfl)) pe_int (nomark _)))) (fun _ _ _ _ _ => (pv 8)))
      (pss_cons (ps_set (i := 5) sc_law_plant.nd rfl (Or.inl rfl) (pe_lst pa_nil))
      (pss_cons (ps_set (i := 6) sc_law_plant.nd rfl (Or.inl rfl) pe_int)
      (pss_cons (ps_for PassesOwn.never rfl (pi_range1 (by rfl) T.b_range (pa_cons (pv 2) pa_nil)) (pg_name (i := 7) sc_law_plant.nd rfl (Or.inl rfl))
        (pss_cons (ps_if (pt_cmpR op_eq (pv 6) pe_int (nomark _))
          (pss_one ps_break)
          pss_nil)
        (pss_cons (ps_set (i := 6) sc_law_plant.nd rfl (Or.inl rfl) (pe_op op_sub (pv 6) pe_int))
        (pss_cons (ps_set (i := 8) sc_law_plant.nd rfl (Or.inl rfl) (pe_ix ix_list (pv 1) (pe_d c_law_pick (hr.mono (by decide)) pass0 (pa_cons (pv 0) (pa_cons (pe_callB call_len_seq (by rfl) T.b_len boot_len (pa_cons (pv 1) pa_nil)) pa_nil))) (fun _ _ => rfl)))
        (pss_cut (ps_if (PW.pt (pw_and (pt_cmpR op_lt (pv 7) pe_int (nomark _)) (pw_and1 (pt_cmpR op_gt (pe_callB call_len_seq (by rfl) T.b_len boot_len (pa_cons (pv 4) pa_nil)) pe_int (nomark _)))))
          (pss_one (ps_set (i := 8) sc_law_plant.nd rfl (Or.inl rfl) (pe_ix ix_list (pv 4) (pe_d c_law_pick (hr.mono (by decide)) pass0 (pa_cons (pv 0) (pa_cons (pe_callB call_len_seq (by rfl) T.b_len boot_len (pa_cons (pv 4) pa_nil)) pa_nil))) (fun _ _ => rfl))))
          pss_nil)
        (pss_cut (ps_if (PW.pt (pw_and (pt_cmpR op_gt (pe_ix ix_tup (pv 8) pe_int (fun _ _ => rfl)) pe_int (nomark _)) (pw_and1 (pt_cmpR op_gt (pe_op op_add (pe_op op_add (pe_op op_add (pe_callB call_len_seq (by rfl) T.b_len boot_len (pa_cons (pv 5) pa_nil)) pe_int) (pv 6)) (pe_ix ix_tup (pv 8) pe_int (fun _ _ => rfl))) (pv 2) (nomark _)))))
          (pss_one (ps_set (i := 8) sc_law_plant.nd rfl (Or.inl rfl) (pe_ix ix_list (pv 3) (pe_d c_law_pick (hr.mono (by decide)) pass0 (pa_cons (pv 0) (pa_cons (pe_callB call_len_seq (by rfl) T.b_len boot_len (pa_cons (pv 3) pa_nil)) pa_nil))) (fun _ _ => rfl))))
          pss_nil)
        (pss_cons (ps_expr (pe_bm PySem.F.plainAttrs_list PySem.F.slot_list_append PySem.F.type_list_append mt_append (pv 5) (pa_cons (pe_ix ix_tup (pv 8) pe_int (fun _ _ => rfl)) pa_nil)))
        (pss_one (ps_set (i := 6) sc_law_plant.nd rfl (Or.inl rfl) (pe_op op_add (pv 6) (pe_ix ix_tup (pv 8) pe_int (fun _ _ => rfl))))))))))))
      (pss_one (ps_ret (pe_callTy call_tuple_of (by rfl) T.b_tuple (by decide +kernel) (pa_cons (pv 5) pa_nil))))))))), ?_⟩
    refine ⟨_, rfl, r, rfl, ⟨_, SqL.of hr1⟩, fun D1 hD1 => lc_it (walk_list (xs := ts.map V.ref)) (fun i H' => FilAt H H' D1 ((rows.take i).filter p0)) (.start hD1) (fun i H' _ ⟨q, _⟩ => SqL.of (q _ _ hr1)) ?_ ?_⟩
    · rintro i v H1' H1 hi a1 ⟨rfl, hv⟩
      obtain ⟨t, ht, rfl⟩ := get_map hv
      have hir : i < rows.length := by rw [← lt]; exact hi
      have hq := List.getElem?_eq_getElem hir
      have h1 := a1.1 _ _ (hT.2 i t rows[i] ht hq)
      refine ⟨rfl, _, rfl, t, _, _, _, rfl, rfl, SqT.of h1, atI_nat (j := 1) rfl, rfl, _, rfl, ite2 (fun c => ?_) (fun c => a1.no hq fun h => c ?_)⟩
      · have := of_decide_eq_true c
        obtain ⟨fs, g1, g2, g3⟩ := a1.yes hD1 hq h1 (decide_eq_true (by injection this))
        exact ⟨_, rfl, _, g1, by rw [List.length_map]; exact lt_line (by omega), g3⟩
      · exact decide_eq_true (by rw [show (rows[i]).2 = 0 from of_decide_eq_true h])
    rintro H1 a1
    rw [lt, List.take_length] at a1
    have s1 := a1.1
    refine ⟨_, rfl, r, rfl, ⟨_, SqL.of (s1 _ _ hr1)⟩, fun D2 hD2 => lc_it (walk_list (xs := ts.map V.ref)) (fun i H' => FilAt H1 H' D2 ((rows.take i).filter p1)) (.start hD2) (fun i H' _ ⟨q, _⟩ => SqL.of (q _ _ (s1 _ _ hr1))) ?_ ?_⟩
    · rintro i v H2' H2 hi a2 ⟨rfl, hv⟩
      obtain ⟨t, ht, rfl⟩ := get_map hv
      have hir : i < rows.length := by rw [← lt]; exact hi
      have hq := List.getElem?_eq_getElem hir
      have h1 := a2.1 _ _ (s1 _ _ (hT.2 i t rows[i] ht hq))
      refine ⟨rfl, _, rfl, t, _, _, _, rfl, rfl, SqT.of h1, atI_nat (j := 1) rfl, _, _, rfl, rfl, _, rfl, ite2 (fun c => ?_) (fun c => a2.no hq fun h => c h)⟩
      obtain ⟨fs, g1, g2, g3⟩ := a2.yes hD2 hq h1 c
      exact ⟨_, rfl, _, g1, by rw [List.length_map]; exact lt_line (by omega), g3⟩
    rintro H2 a2
    rw [lt, List.take_length] at a2
    have s2 := s1.trans a2.1
    have tipsAt : RowsAt H2 D1 (rows.filter p0) := by
      obtain ⟨_, fs, h1, h2⟩ := a1
      exact ⟨fs, a2.1 _ _ h1, h2.keep (TK.of_same a2.1)⟩
    have innAt : RowsAt H2 D2 (rows.filter p1) := a2.2
    have kinAt : RowsAt H2 r rows := ⟨ts, s2 _ _ hr1, hT.keep (TK.of_same s2)⟩
    have tpos : 1 ≤ (rows.filter p0).length := by
      obtain ⟨q, h1, h2⟩ := R.leaf
      have : q ∈ rows.filter p0 := List.mem_filter.mpr ⟨h1, decide_eq_true h2⟩
      exact List.length_pos_of_mem this
    have sub : ∀ {P : Row → Bool} {q : Row}, q ∈ rows.filter P → q ∈ rows := fun h => (List.mem_filter.mp h).1
    have b2 := hx.same s2
    refine ⟨le_line (show 0 ≤ 10000000 by decide), fun l hl => ?_⟩
    have hlx := b2.ne hl
    have s23 := (Same.refl H2).upd_new (o := .lst []) hl
    have l3 : (upd H2 l (.lst [])) l = some (.lst (([] : List Str).map V.str)) := upd_same
    have hl0 : H l = none := by
      cases e : H l with
      | none => rfl
      | some o => rw [s2 _ _ e] at hl; cases hl
    have nD1l : D1 ≠ l := fun e => by
      obtain ⟨fs, h, _⟩ := tipsAt
      rw [e, hl] at h
      cases h
    have nD2l : D2 ≠ l := fun e => by
      obtain ⟨fs, h, _⟩ := innAt
      rw [e, hl] at h
      cases h
    have nrl : r ≠ l := fun e => by
      rw [e, hl0] at hr1
      cases hr1
    generalize upd H2 l (.lst []) = H3 at s23 l3
    refine ⟨_, rfl, _, rfl, by omega, by omega, ?_⟩
    rw [Int.toNat_natCast]
    have b3 := b2.same s23
    have k3 : Kp x H H3 := Kp.same (s2.trans s23)
    refine for_range (n := m) (fun i σ H' => ∃ (g : Int) (x7 x8 : Option V) (ws : List Str), σ = [some (.ref x), some (.ref r), some (.int (m : Nat)), some (.ref D1), some (.ref D2), some (.ref l), some (.int g), x7, x8] ∧ Kp x H H' ∧ BxAt H' x ∧ H' l = some (.lst (ws.map V.str)) ∧ RowsAt H' D1 (rows.filter p0) ∧ RowsAt H' D2 (rows.filter p1) ∧ RowsAt H' r rows ∧ ws.length = i ∧ (∀ z ∈ ws, HasN rows z) ∧ (i = 0 → g = 1))
      ⟨1, none, none, [], rfl, k3, b3, l3, tipsAt.sub s23, innAt.sub s23, kinAt.sub s23, rfl, (fun z h => nomatch h), fun _ => rfl⟩ ?_ ?_
    · rintro i σ H4 hi ⟨g, x7, x8, ws, rfl, k4, b4, l4, t4, n4, r4, wl, wk, g1⟩
      have e0 : (0 : Int) + (i : Nat) = ((i : Nat) : Int) := by omega
      rw [e0]
      refine ⟨_, rfl, rfl, _, rfl, ite2 (fun c => ?_) (fun c => ?_)⟩
      · have hg : g = 0 := by
          have := of_decide_eq_true c
          injection this
        have i0 : i ≠ 0 := fun e => by have := g1 e; omega
        refine ⟨_, rfl, l, _, rfl, .inl ⟨SqL.of l4, fun p hp => ?_⟩⟩
        exact key _ p ws (k4.trans (Kp.same ((Same.refl H4).upd_new hp))) (b4.same ((Same.refl H4).upd_new hp)) (.of upd_same) ⟨by omega, by omega, wk⟩
      refine ⟨_, rfl, _, _, rfl, rfl, ?_⟩
      obtain ⟨xs4, q4, ql4⟩ := r4.len (K := K)
      refine ⟨_, rfl, _, rfl, _, rfl, r, _, rfl, .inl q4, ?_⟩
      rw [ql4]
      refine ⟨x, _, rfl, b4, by omega, by omega, fun H5 d k5 b5 d0 d1 => ?_⟩
      have r5 := r4.kp b4 k5
      obtain ⟨ts5, t5, q5, f1, f2, f3, f4⟩ := r5.pick d d0 d1
      refine ⟨r, _, _, _, rfl, rfl, SqL.of f1, f2, ?_⟩
      have l5 := k5 _ _ l4 hlx
      -- the first two
      refine ⟨fun σ H' => Kp x H5 H' ∧ BxAt H' x ∧ ∃ (u : Addr) (q : Row), σ = [some (.ref x), some (.ref r), some (.int (m : Nat)), some (.ref D1), some (.ref D2), some (.ref l), some (.int (g - 1)), some (.int (i : Nat)), some (.ref u)] ∧ H' u = some (.tup [.str q.1, .int q.2]) ∧ q ∈ rows, ?_, ?_⟩
      · have no : Kp x H5 H5 ∧ BxAt H5 x ∧ ∃ (u : Addr) (q : Row), [some (V.ref x), some (.ref r), some (.int (m : Nat)), some (.ref D1), some (.ref D2), some (.ref l), some (.int (g - 1)), some (.int (i : Nat)), some (.ref t5)] = [some (V.ref x), some (.ref r), some (.int (m : Nat)), some (.ref D1), some (.ref D2), some (.ref l), some (.int (g - 1)), some (.int (i : Nat)), some (.ref u)] ∧ H5 u = some (.tup [.str q.1, .int q.2]) ∧ q ∈ rows := ⟨Kp.refl x H5, b5, t5, q5, rfl, f3, f4⟩
        have n5 := n4.kp b4 k5
        obtain ⟨xs5, y5, yl5⟩ := n5.len (K := K)
        refine ⟨_, rfl, _, _, rfl, rfl, _, rfl, ite2 (fun _ => ⟨_, rfl, D2, _, rfl, .inl y5, _, _, rfl, rfl, _, rfl, ite2 (fun c => ?_) (fun _ => no)⟩) (fun _ => no)⟩
        have pos : 0 < (rows.filter p1).length := by
          have := of_decide_eq_true c
          rw [yl5] at this
          omega
        have le := List.length_filter_le p1 rows
        refine ⟨_, rfl, _, rfl, _, rfl, D2, _, rfl, .inl y5, ?_⟩
        rw [yl5]
        refine ⟨x, _, rfl, b5, by omega, by omega, fun H6 d6 k6 b6 d60 d61 => ?_⟩
        obtain ⟨ts6, t6, q6, v1, v2, v3, v4⟩ := (n5.kp b5 k6).pick d6 d60 d61
        exact ⟨D2, _, _, _, rfl, rfl, SqL.of v1, v2, k6, b6, t6, q6, rfl, v3, sub v4⟩
      rintro σ H6 ⟨k6, b6, u6, q6, rfl, hu6, hq6⟩
      have l6 := k6 _ _ l5 hlx
      -- no room
      refine ⟨fun σ H' => Kp x H6 H' ∧ BxAt H' x ∧ ∃ (u : Addr) (q : Row), σ = [some (.ref x), some (.ref r), some (.int (m : Nat)), some (.ref D1), some (.ref D2), some (.ref l), some (.int (g - 1)), some (.int (i : Nat)), some (.ref u)] ∧ H' u = some (.tup [.str q.1, .int q.2]) ∧ q ∈ rows, ?_, ?_⟩
      · have no : Kp x H6 H6 ∧ BxAt H6 x ∧ ∃ (u : Addr) (q : Row), [some (V.ref x), some (.ref r), some (.int (m : Nat)), some (.ref D1), some (.ref D2), some (.ref l), some (.int (g - 1)), some (.int (i : Nat)), some (.ref u6)] = [some (V.ref x), some (.ref r), some (.int (m : Nat)), some (.ref D1), some (.ref D2), some (.ref l), some (.int (g - 1)), some (.int (i : Nat)), some (.ref u)] ∧ H6 u = some (.tup [.str q.1, .int q.2]) ∧ q ∈ rows := ⟨Kp.refl x H6, b6, u6, q6, rfl, hu6, hq6⟩
        refine ⟨_, rfl, u6, _, _, _, rfl, rfl, SqT.of hu6, atI_nat (j := 1) rfl, _, _, rfl, rfl, _, rfl, ite2 (fun _ => ⟨_, rfl, l, _, rfl, .inl (SqL.of l6), _, _, rfl, rfl, _, rfl, _, _, rfl, rfl, _, rfl, u6, _, _, _, rfl, rfl, SqT.of hu6, atI_nat (j := 1) rfl, _, _, rfl, rfl, _, rfl, _, _, rfl, rfl, _, rfl, ite2 (fun c => ?_) (fun _ => no)⟩) (fun _ => no)⟩
        have t6 := ((t4.kp b4 k5).kp b5 k6)
        obtain ⟨xs6, y6, yl6⟩ := t6.len (K := K)
        have le := List.length_filter_le p0 rows
        refine ⟨_, rfl, _, rfl, _, rfl, D1, _, rfl, .inl y6, ?_⟩
        rw [yl6]
        refine ⟨x, _, rfl, b6, by omega, by omega, fun H7 d7 k7 b7 d70 d71 => ?_⟩
        obtain ⟨ts7, t7, q7, v1, v2, v3, v4⟩ := (t6.kp b6 k7).pick d7 d70 d71
        exact ⟨D1, _, _, _, rfl, rfl, SqL.of v1, v2, k7, b7, t7, q7, rfl, v3, sub v4⟩
      rintro σ H7 ⟨k7, b7, u7, q7, rfl, hu7, hq7⟩
      have l7 := k7 _ _ l6 hlx
      refine ⟨_, rfl, .inl ⟨rfl, _, SqL.of l7⟩, _, rfl, u7, _, _, _, rfl, rfl, SqT.of hu7, atI_nat (j := 0) rfl, l, _, _, rfl, rfl, l7, by rw [List.length_map]; exact lt_line (by omega), ?_⟩
      have k07 : Kp x H H7 := ((k4.trans k5).trans k6).trans k7
      have t7 : RowsAt H7 D1 (rows.filter p0) := ((t4.kp b4 k5).kp b5 k6).kp b6 k7
      have n7 : RowsAt H7 D2 (rows.filter p1) := ((n4.kp b4 k5).kp b5 k6).kp b6 k7
      have r7 : RowsAt H7 r rows := (r5.kp b5 k6).kp b6 k7
      refine ⟨_, rfl, _, rfl, u7, _, _, _, rfl, rfl, SqT.of (by rw [upd_ne (ne_of hu7 l7 (fun e => nomatch e))]; exact hu7), atI_nat (j := 1) rfl, _, _, rfl, rfl, ?_⟩
      refine ⟨_, _, _, ws ++ [q7.1], rfl, k07.upd_own hl0, b7.upd_ne hlx, by rw [upd_same, List.map_append]; rfl, t7.updl nD1l l7, n7.updl nD2l l7, r7.updl nrl l7, by rw [List.length_append, wl]; rfl, fun z hz => ?_, fun e => by omega⟩
      rcases List.mem_append.mp hz with hz | hz
      · exact wk z hz
      · rw [List.mem_singleton.mp hz]
        exact ⟨q7, hq7, rfl⟩
    · rintro σ H4 ⟨g, x7, x8, ws, rfl, k4, b4, l4, t4, n4, r4, wl, wk, g1⟩
      refine ⟨_, rfl, l, _, rfl, .inl ⟨SqL.of l4, fun p hp => ?_⟩⟩
      exact key _ p ws (k4.trans (Kp.same ((Same.refl H4).upd_new hp))) (b4.same ((Same.refl H4).upd_new hp)) (.of upd_same) ⟨by omega, by omega, wk⟩
end
end Sh
end
section
set_option Elab.async false
set_option linter.all false
set_option maxRecDepth 100000
set_option maxHeartbeats 4000000
namespace Sh
open PySem PySem.Spec PyProof.Rows L2
open C8 (pss_cut tCut)
open Evl (ixN_nat)
def spChain51 : Sp := fun vs H Q _ => ∃ (x r p : Addr) (rows : List Row) (l : List Str), vs = [.ref x, .ref r, .ref p, .int 40] ∧ BxAt H x ∧ RowsAt H r rows ∧ ROk 4 rows ∧ Tq H p (sV l) ∧ KsOk rows 9 l ∧ ∀ (H' : Hp) (p' : Addr) (l' : List Str), Kp x H H' → BxAt H' x → Tq H' p' (sV l') → KsOk rows 1809 l' → Q (.ref p') H'
theorem repG_s {K : PySem.W.Frag} {H : Hp} {a : Addr} {l : List Str} {k : Int} {Q : VK} (ha : Tq H a (sV l)) (hn : l ≠ []) (h0 : 0 ≤ k) (h1 : k ≤ 4000) (hl : l.length ≤ 100) (c : ∀ r H', Same H H' → Tq H' r (sV (List.replicate k.toNat l).flatten) → Q (.ref r) H') : rRepG K (.ref a) (.int k) H Q := by
  have e : (List.replicate k.toNat (sV l)).flatten = sV (List.replicate k.toNat l).flatten := by
    unfold sV
    rw [List.map_flatten, List.map_replicate]
  refine ⟨a, k, sV l, rfl, rfl, ha.sq, fun h => hn (List.map_eq_nil_iff.mp h), h0, h1, by unfold sV; rw [List.length_map]; exact hl, fun e1 => ?_, fun _ p hp => ?_⟩
  · refine c a H (Same.refl H) ?_
    rw [e1]
    have : (List.replicate (1 : Int).toNat l).flatten = l := by simp
    rw [this]
    exact ha
  · rw [e]
    exact c p _ ((Same.refl H).upd_new hp) (.of upd_same)
theorem catA_s {K : PySem.W.Frag} {H : Hp} {a b : Addr} {l m : List Str} {Q : VK} (ha : Tq H a (sV l)) (hb : Tq H b (sV m)) (hl : l.length + m.length ≤ 10000000) (k : ∀ r H', Same H H' → Tq H' r (sV (l ++ m)) → Q (.ref r) H') : rCatA K (.ref a) (.ref b) H Q := by
  have e : sV l ++ sV m = sV (l ++ m) := by
    unfold sV
    rw [List.map_append]
  have s : ∀ {r H'}, Tq H' r (sV l ++ sV m) → Tq H' r (sV (l ++ m)) := fun h => by rw [← e]; exact h
  refine ⟨a, b, sV l, sV m, rfl, rfl, ha.sq, hb.sq, le_line (by unfold sV; rw [List.length_map, List.length_map]; exact hl), fun e => k b H (Same.refl H) (s (by rw [e]; exact hb)), fun _ e => k a H (Same.refl H) (s (by rw [e, List.append_nil]; exact ha)), fun _ _ p hp => k p _ ((Same.refl H).upd_new hp) (s (.of upd_same))⟩
theorem flat_len {α : Type} (n : Nat) (l : List α) : (List.replicate n l).flatten.length = n * l.length := by
  rw [List.length_flatten, List.map_replicate, List.sum_replicate_nat]
theorem flat_mem {α : Type} {n : Nat} {l : List α} {z : α} (h : z ∈ (List.replicate n l).flatten) : z ∈ l := by
  obtain ⟨m, h1, h2⟩ := List.mem_flatten.mp h
  rw [List.eq_of_mem_replicate h1] at h2
  exact h2
abbrev N_law_chain : List Str := ["box", "kinds", "plant", "most", "inner", "way", "pair", "side", "tips", "tip", "many", "other"]
theorem sc_law_chain : FnScope N_law_chain ["box", "kinds", "plant", "most"] (defScope s_law_chain) := ⟨rfl, rfl, rfl, by decide +kernel, rfl, by decide +kernel, by decide +kernel⟩
section
variable {P : Program} {w : World} {K : PySem.W.Frag} {mg : Str → Option Value} {base : Heap}
theorem ok_chain51 (T : Bl mg) (c_law_pick : DefOk P w K mg base CX0 1 "_law_pick" spPick51) (D : Def0 K mg "_law_chain" s_law_chain) : DefOk P w K mg base CX0 2 "_law_chain" spChain51 := by
  refine D.ok sc_law_chain (fun vs H Q E h => ?_) (fun _ _ _ _ _ _ us hl => match us, hl with | [_, _, _, _], _ => rfl) (fun f cdv A outer s' H vs Q E hr h => ?_)
  · obtain ⟨x, r, p, rows, l, rfl, _⟩ := h
    rfl
  · obtain ⟨x, r, p, rows, l, rfl, hx, hR, R, hp, hl, key⟩ := h
    have r1 := R.pos
    have r4 := R.len
    obtain ⟨ts, hr1, hT⟩ := hR
    have lt : (ts.map V.ref).length = rows.length := by rw [List.length_map, hT.1]
    refine ⟨_, (pss_cons (ps_setLc (i := 4) (own := [("pair", 6)]) (g := (gName 6)) rfl sc_law_chain.nd rfl rfl (sw_true rfl rfl rfl (by decide +kernel)) (pi_list (pv 1)) (blkOk_by (N := N_law_chain) (sc := defScope s_law_chain) (by decide +kernel)) (fun _ _ _ _ _ => (pg_name (i := 6) sc_law_chain.nd rfl (Or.inl rfl))) (fun _ _ _ _ _ => (pts_one (pt_cmpR op_gt (pe_ix (show IxR _ (rIxT K) from ix_tup) (pv 6) pe_int (fun _ _ => rfl)) pe_int (nomark _)))) (fun _ _ _ _ _ => (pv 6)))
      (pss_cons (ps_set (i := 5) sc_law_chain.nd rfl (Or.inl rfl) (pe_d c_law_pick (hr.mono (by decide)) pass0 (pa_cons (pv 0) (pa_cons pe_int pa_nil))))
      (pss_cons (ps_if (PW.pt (pw_or (pt_cmpR op_eq (pe_callB call_len_seq (by rfl) T.b_len boot_len (pa_cons (pv 4) pa_nil)) pe_int (nomark _)) (pw_or1 (pt_cmpR op_lt (pv 5) pe_int (nomark _)))))
        (pss_one (ps_ret (pv 2)))
        pss_nil)
      (pss_cons (ps_set (i := 6) sc_law_chain.nd rfl (Or.inl rfl) (pe_ix ix_list (pv 4) (pe_d c_law_pick (hr.mono (by decide)) pass0 (pa_cons (pv 0) (pa_cons (pe_callB call_len_seq (by rfl) T.b_len boot_len (pa_cons (pv 4) pa_nil)) pa_nil))) (fun _ _ => rfl)))
      (pss_cons (ps_set (i := 7) sc_law_chain.nd rfl (Or.inl rfl) (pe_d c_law_pick (hr.mono (by decide)) pass0 (pa_cons (pv 0) (pa_cons (pe_ix ix_tup (pv 6) pe_int (fun _ _ => rfl)) pa_nil))))
      (pss_cons (ps_setLc (i := 8) (own := [("other", 11)]) (g := (gName 11)) rfl sc_law_chain.nd rfl rfl (sw_true rfl rfl rfl (by decide +kernel)) (pi_list (pv 1)) (blkOk_by (N := N_law_chain) (sc := defScope s_law_chain) (by decide +kernel)) (fun _ _ _ _ _ => (pg_name (i := 11) sc_law_chain.nd rfl (Or.inl rfl))) (fun _ _ _ _ _ => (pts_one (pt_cmpR op_eq (pe_ix (show IxR _ (rIxT K) from ix_tup) (pv 11) pe_int (fun _ _ => rfl)) pe_int (nomark _)))) (fun _ _ _ _ _ => (pe_ix (show IxR _ (rIxT K) from ix_tup) (pv 11) pe_int (fun _ _ => rfl))))
      (pss_cons (ps_set (i := 9) sc_law_chain.nd rfl (Or.inl rfl) (pe_tup (pa_cons (pe_ix ix_list (pv 8) (pe_d c_law_pick (hr.mono (by decide)) pass0 (pa_cons (pv 0) (pa_cons (pe_callB call_len_seq (by rfl) T.b_len boot_len (pa_cons (pv 8) pa_nil)) pa_nil))) (fun _ _ => rfl)) pa_nil)))
      (pss_cons (ps_set (i := 10) sc_law_chain.nd rfl (Or.inl rfl) (pe_op op_add pe_int (pe_d c_law_pick (hr.mono (by decide)) pass0 (pa_cons (pv 0) (pa_cons pe_int pa_nil)))))
      (pss_cut (ps_if (pt_cmpR op_gt (pv 5) pe_int (nomark _))
        (pss_one (ps_set (i := 10) sc_law_chain.nd rfl (Or.inl rfl) (pe_op op_add pe_int (pe_d c_law_pick (hr.mono (by decide)) pass0 (pa_cons (pv 0) (pa_cons pe_int pa_nil))))))
        pss_nil)
      (pss_cut (ps_if (pt_cmpR op_eq (pv 5) pe_int (nomark _))
        (pss_one (ps_set (i := 10) sc_law_chain.nd rfl (Or.inl rfl) (pe_op op_add pe_int (pe_d c_law_pick (hr.mono (by decide)) pass0 (pa_cons (pv 0) (pa_cons (pe_callB (call_max2 rfl) (by rfl) T.b_max (by decide +kernel) (pa_cons pe_int (pa_cons (pe_op op_fdiv (pv 3) (pe_ix ix_tup (pv 6) pe_int (fun _ _ => rfl))) pa_nil))) pa_nil))))))
        pss_nil)
      (pss_one (ps_ret (pe_op op_catA (pe_op op_catA (pe_op op_repG (pe_op op_catA (pe_tup (pa_cons (pe_ix ix_tup (pv 6) pe_int (fun _ _ => rfl)) pa_nil)) (pe_op op_repG (pv 9) (pv 7))) (pv 10)) (pv 2)) (pe_op op_repG (pv 9) (pe_op op_mul (pv 10) (pe_op op_sub (pe_op op_sub (pe_ix ix_tup (pv 6) pe_int (fun _ _ => rfl)) pe_int) (pv 7))))))))))))))))), ?_⟩
    refine ⟨_, rfl, r, rfl, ⟨_, SqL.of hr1⟩, fun D2 hD2 => lc_it (walk_list (xs := ts.map V.ref)) (fun i H' => FilAt H H' D2 ((rows.take i).filter p1)) (.start hD2) (fun i H' _ ⟨q, _⟩ => SqL.of (q _ _ hr1)) ?_ ?_⟩
    · rintro i v H2' H2 hi a2 ⟨rfl, hv⟩
      obtain ⟨t, ht, rfl⟩ := get_map hv
      have hir : i < rows.length := by rw [← lt]; exact hi
      have hq := List.getElem?_eq_getElem hir
      have h1 := a2.1 _ _ (hT.2 i t rows[i] ht hq)
      refine ⟨rfl, _, rfl, t, _, _, _, rfl, rfl, SqT.of h1, atI_nat (j := 1) rfl, _, _, rfl, rfl, _, rfl, ite2 (fun c => ?_) (fun c => a2.no hq fun h => c h)⟩
      obtain ⟨fs, g1, g2, g3⟩ := a2.yes hD2 hq h1 c
      exact ⟨_, rfl, _, g1, by rw [List.length_map]; exact lt_line (by omega), g3⟩
    rintro H1 a2
    rw [lt, List.take_length] at a2
    have s1 := a2.1
    have b1 := hx.same s1
    have kin1 : RowsAt H1 r rows := ⟨ts, s1 _ _ hr1, hT.keep (TK.of_same s1)⟩
    have inn1 : RowsAt H1 D2 (rows.filter p1) := a2.2
    have hp1 := hp.same s1
    refine ⟨_, rfl, x, 32, rfl, b1, by decide, by decide, fun H2 way k2 b2 w0 w1 => ?_⟩
    have kin2 := kin1.kp b1 k2
    have inn2 := inn1.kp b1 k2
    have hp2 := tqk hp1 b1 k2
    have k02 : Kp x H H2 := (Kp.same s1).trans k2
    obtain ⟨xs2, y2, yl2⟩ := inn2.len (K := K)
    refine ⟨_, rfl, D2, _, rfl, .inl y2, rfl, _, rfl, ite2 (fun _ => ⟨_, rfl, key H2 p l k02 b2 hp2 ⟨hl.1, by have := hl.2.1; omega, hl.2.2⟩⟩) (fun c => ?_)⟩
    refine ⟨_, rfl, _, _, rfl, rfl, _, rfl, ite2 (fun _ => ⟨_, rfl, key H2 p l k02 b2 hp2 ⟨hl.1, by have := hl.2.1; omega, hl.2.2⟩⟩) (fun _ => ?_)⟩
    have pos : 0 < (rows.filter p1).length := by
      rw [yl2] at c
      rcases Nat.eq_zero_or_pos (rows.filter p1).length with h | h
      · exact absurd (by rw [h]; rfl) c
      · exact h
    have le := List.length_filter_le p1 rows
    refine ⟨_, rfl, _, rfl, _, rfl, D2, _, rfl, .inl y2, ?_⟩
    rw [yl2]
    refine ⟨x, _, rfl, b2, by omega, by omega, fun H3 d3 k3 b3 d30 d31 => ?_⟩
    obtain ⟨ts3, t3, q3, f1, f2, f3, f4⟩ := (inn2.kp b2 k3).pick d3 d30 d31
    refine ⟨D2, _, _, _, rfl, rfl, SqL.of f1, f2, ?_⟩
    obtain ⟨m3, pp⟩ := List.mem_filter.mp f4
    have q3pos : 0 < q3.2 := of_decide_eq_true pp
    have q3le := (R.wd q3 m3).2
    refine ⟨_, rfl, _, rfl, t3, _, _, _, rfl, rfl, SqT.of f3, atI_nat (j := 1) rfl, x, _, rfl, b3, q3pos, by omega, fun H4 side k4 b4 sd0 sd1 => ?_⟩
    have kin4 := (kin2.kp b2 k3).kp b3 k4
    have hp4 := tqk (tqk hp2 b2 k3) b3 k4
    have k04 : Kp x H H4 := (k02.trans k3).trans k4
    have f3' := b3.tk k4 _ _ f3
    obtain ⟨us, hr4, hT4⟩ := kin4
    have lt4 : (us.map V.ref).length = rows.length := by rw [List.length_map, hT4.1]
    refine ⟨_, rfl, r, rfl, ⟨_, SqL.of hr4⟩, fun D3 hD3 => lc_it (walk_list (xs := us.map V.ref)) (fun i H' => Same H4 H' ∧ H' D3 = some (.lst (((rows.take i).filter p0).map fun q => V.str q.1))) ⟨(Same.refl H4).upd_new hD3, upd_same⟩ (fun i H' _ ⟨q, _⟩ => SqL.of (q _ _ hr4)) ?_ ?_⟩
    · rintro i v H5' H5 hi ⟨s5, d5⟩ ⟨rfl, hv⟩
      obtain ⟨t, ht, rfl⟩ := get_map hv
      have hir : i < rows.length := by rw [← lt4]; exact hi
      have hq := List.getElem?_eq_getElem hir
      have h1 := s5 _ _ (hT4.2 i t rows[i] ht hq)
      refine ⟨rfl, _, rfl, t, _, _, _, rfl, rfl, SqT.of h1, atI_nat (j := 1) rfl, rfl, _, rfl, ite2 (fun c => ?_) (fun c => ⟨s5, ?_⟩)⟩
      · have hP : p0 rows[i] = true := decide_eq_true (by have := of_decide_eq_true c; injection this)
        refine ⟨_, rfl, t, _, _, _, rfl, rfl, SqT.of h1, atI_nat (j := 0) rfl, _, d5, ?_, s5.upd_own hD3, ?_⟩
        · rw [List.length_map]
          have := List.length_filter_le p0 (rows.take i)
          rw [List.length_take] at this
          exact lt_line (by omega)
        · rw [upd_same, ← take_snoc hq, List.filter_append, List.filter_cons_of_pos hP, List.map_append]
          rfl
      · have hP : ¬ p0 rows[i] = true := fun h => c (decide_eq_true (by rw [show (rows[i]).2 = 0 from of_decide_eq_true h]))
        rw [← take_snoc hq, List.filter_append, List.filter_cons_of_neg hP, List.filter_nil, List.append_nil]
        exact d5
    rintro H5 ⟨s5, d5⟩
    rw [lt4, List.take_length] at d5
    have tpos : 1 ≤ (rows.filter p0).length := by
      obtain ⟨q, h1, h2⟩ := R.leaf
      have : q ∈ rows.filter p0 := List.mem_filter.mpr ⟨h1, decide_eq_true h2⟩
      exact List.length_pos_of_mem this
    have tle := List.length_filter_le p0 rows
    have b5 := b4.same s5
    have nD3 := b4.ne hD3
    refine ⟨_, rfl, _, rfl, _, rfl, D3, _, rfl, .inl (SqL.of d5), ?_⟩
    rw [List.length_map]
    refine ⟨x, _, rfl, b5, by omega, by omega, fun H6 d6 k6 b6 d60 d61 => ?_⟩
    have hd6 : d6.toNat < (rows.filter p0).length := by omega
    refine ⟨D3, _, _, _, rfl, rfl, SqL.of (k6 _ _ d5 nD3), at_ofG (j := d6.toNat) (by omega) (by rw [List.getElem?_map, List.getElem?_eq_getElem hd6]; rfl), ?_⟩
    have mq := (List.mem_filter.mp (List.getElem_mem hd6)).1
    generalize (rows.filter p0)[d6.toNat] = q6 at mq
    refine ⟨le_line (show 1 ≤ 10000000 by decide), fun tp htp => ?_⟩
    have s67 := (Same.refl H6).upd_new (o := .tup [.str q6.1]) htp
    have tip7 : Tq (upd H6 tp (.tup [.str q6.1])) tp (sV [q6.1]) := .of upd_same
    have k07 : Kp x H (upd H6 tp (.tup [.str q6.1])) := (((k04.trans (Kp.same s5)).trans k6).trans (Kp.same s67))
    have b7 := b6.same s67
    have f37 := s67 _ _ (b5.tk k6 _ _ (s5 _ _ f3'))
    have hp7 := (tqk (hp4.same s5) b5 k6).same s67
    generalize upd H6 tp (.tup [.str q6.1]) = H7 at tip7 k07 b7 f37 hp7
    refine ⟨_, rfl, x, 4, rfl, b7, by decide, by decide, fun H8 d8 k8 b8 d80 d81 => ⟨_, _, rfl, rfl, ?_⟩⟩
    -- way > 27
    refine ⟨fun σ H' => Kp x H7 H' ∧ BxAt H' x ∧ ∃ many : Int, σ = [some (.ref x), some (.ref r), some (.ref p), some (.int 40), some (.ref D2), some (.int way), some (.ref t3), some (.int side), some (.ref D3), some (.ref tp), some (.int many), none] ∧ 1 ≤ many ∧ many * q3.2 ≤ 1800, ?_, ?_⟩
    · have small : ∀ d : Int, 0 ≤ d → d < 40 → 1 ≤ 1 + d ∧ (1 + d) * q3.2 ≤ 1800 := fun d h0 h1 => by
        rcases (show q3.2 = 1 ∨ q3.2 = 2 ∨ q3.2 = 3 by omega) with h | h | h <;> rw [h] <;> omega
      refine ⟨_, rfl, _, _, rfl, rfl, _, rfl, ite2 (fun _ => ⟨_, rfl, x, 40, rfl, b8, by decide, by decide, fun H9 d9 k9 b9 d90 d91 => ⟨_, _, rfl, rfl, k8.trans k9, b9, _, rfl, small d9 d90 d91⟩⟩) (fun _ => ⟨k8, b8, _, rfl, small d8 d80 (by omega)⟩)⟩
    rintro σ H9 ⟨k9, b9, m9, rfl, m91, m92⟩
    refine ⟨fun σ H' => Kp x H7 H' ∧ BxAt H' x ∧ ∃ many : Int, σ = [some (.ref x), some (.ref r), some (.ref p), some (.int 40), some (.ref D2), some (.int way), some (.ref t3), some (.int side), some (.ref D3), some (.ref tp), some (.int many), none] ∧ 1 ≤ many ∧ many * q3.2 ≤ 1800, ?_, ?_⟩
    · refine ⟨_, rfl, rfl, _, rfl, ite2 (fun _ => ?_) (fun _ => ⟨k9, b9, m9, rfl, m91, m92⟩)⟩
      have f39 := b7.tk k9 _ _ f37
      have q0 : 0 ≤ 40 / q3.2 := Int.ediv_nonneg (by decide) (by omega)
      have q1 : 40 / q3.2 ≤ 40 := Int.ediv_le_self _ (by decide)
      have q2 : (40 / q3.2) * q3.2 ≤ 40 := Int.ediv_mul_le _ (by omega)
      refine ⟨_, rfl, _, rfl, _, rfl, t3, _, _, _, rfl, rfl, SqT.of f39, atI_nat (j := 1) rfl, _, _, rfl, rfl, ⟨q3pos, by omega⟩, _, _, rfl, x, _, rfl, b9, ?_, ?_, fun H' d k' b' d0 d1 => ⟨_, _, rfl, rfl, k9.trans k', b', _, rfl, by omega, ?_⟩⟩
      · omega
      · omega
      · have h : 1 + d ≤ max 1 (40 / q3.2) := by omega
        rcases (show q3.2 = 1 ∨ q3.2 = 2 ∨ q3.2 = 3 by omega) with e | e | e <;> rw [e] at h q2 ⊢ <;> omega
    rintro σ HA ⟨kA, bA, mA, rfl, mA1, mA2⟩
    have k0A : Kp x H HA := k07.trans kA
    have f3A := b7.tk kA _ _ f37
    have tipA := tqk tip7 b7 kA
    have hpA := tqk hp7 b7 kA
    refine ⟨_, rfl, t3, _, _, _, rfl, rfl, SqT.of f3A, atI_nat (j := 0) rfl, le_line (show 1 ≤ 10000000 by decide), fun a1 ha1 => ?_⟩
    have sA1 := (Same.refl HA).upd_new (o := .tup [.str q3.1]) ha1
    have one : Tq (upd HA a1 (.tup [.str q3.1])) a1 (sV [q3.1]) := .of upd_same
    generalize upd HA a1 (.tup [.str q3.1]) = HB at sA1 one
    refine ⟨_, rfl, _, rfl, repG_s (tipA.same sA1) (by simp) sd0 (by omega) (show 1 ≤ 100 by decide) fun a2 HC s2 t2 => ?_⟩
    refine catA_s (one.same s2) t2 (by rw [flat_len]; show 1 + side.toNat * 1 ≤ _; omega) fun a3 HD s3 t3' => ?_
    have l3 : ([q3.1] ++ (List.replicate side.toNat [q6.1]).flatten).length = 1 + side.toNat := by
      rw [List.length_append, flat_len]
      show 1 + side.toNat * 1 = _
      omega
    have mle : mA ≤ 1800 := by
      rcases (show q3.2 = 1 ∨ q3.2 = 2 ∨ q3.2 = 3 by omega) with e | e | e <;> rw [e] at mA2 <;> omega
    refine ⟨_, rfl, repG_s t3' (by simp) (by omega) (by omega) (by rw [l3]; omega) fun a4 HE s4 t4 => ?_⟩
    have s4' := ((sA1.trans s2).trans s3).trans s4
    have l4 : (List.replicate mA.toNat ([q3.1] ++ (List.replicate side.toNat [q6.1]).flatten)).flatten.length = mA.toNat * (1 + side.toNat) := by rw [flat_len, l3]
    have big : mA.toNat * (1 + side.toNat) + mA.toNat * (q3.2 - 1 - side).toNat ≤ 1800 := by
      rw [← Nat.mul_add]
      have e : 1 + side.toNat + (q3.2 - 1 - side).toNat = q3.2.toNat := by omega
      rw [e]
      have : ((mA.toNat * q3.2.toNat : Nat) : Int) = mA * q3.2 := by
        rw [Int.natCast_mul, Int.toNat_of_nonneg (by omega), Int.toNat_of_nonneg (by omega)]
      omega
    have ll := hl.2.1
    refine ⟨_, rfl, catA_s t4 (hpA.same s4') (by rw [l4]; omega) fun a5 HF s5 t5 => ?_⟩
    have s5' := s4'.trans s5
    have h2 : (q3.2 - 1 - side).toNat ≤ 2 := by omega
    have hm : mA * (q3.2 - 1 - side) = ((mA.toNat * (q3.2 - 1 - side).toNat : Nat) : Int) := by
      rw [Int.natCast_mul, Int.toNat_of_nonneg (by omega), Int.toNat_of_nonneg (by omega)]
    refine ⟨_, rfl, _, rfl, _, rfl, t3, _, _, _, rfl, rfl, SqT.of (s5' _ _ f3A), atI_nat (j := 1) rfl, _, _, rfl, rfl, _, rfl, _, _, rfl, rfl, _, _, rfl, rfl, ?_⟩
    refine ⟨.inl ⟨by omega, by omega⟩, ?_⟩
    show rRepG _ (V.ref tp) (V.int (mA * (q3.2 - 1 - side))) HF _
    rw [hm]
    refine repG_s (tipA.same s5') (by simp) (by omega) (by omega) (show 1 ≤ 100 by decide) fun a6 HG s6 t6 => ?_
    rw [Int.toNat_natCast] at t6
    have l6 : (List.replicate (mA.toNat * (q3.2 - 1 - side).toNat) [q6.1]).flatten.length = mA.toNat * (q3.2 - 1 - side).toNat := by rw [flat_len]; show _ * 1 = _; omega
    refine catA_s (t5.same s6) t6 (by rw [List.length_append, l4, l6]; omega) fun a7 HI s7 t7 => ?_
    have sAI := (s5'.trans s6).trans s7
    refine key HI a7 _ (k0A.trans (Kp.same sAI)) (bA.same sAI) t7 ⟨?_, ?_, fun z hz => ?_⟩
    · rw [List.length_append, List.length_append]
      have := hl.1
      omega
    · rw [List.length_append, List.length_append, l4, l6]
      omega
    · rcases List.mem_append.mp hz with hz | hz
      · rcases List.mem_append.mp hz with hz | hz
        · rcases List.mem_append.mp (flat_mem hz) with hz | hz
          · rw [List.mem_singleton.mp hz]
            exact ⟨q3, m3, rfl⟩
          · rw [List.mem_singleton.mp (flat_mem hz)]
            exact ⟨q6, mq, rfl⟩
        · exact hl.2.2 z hz
      · rw [List.mem_singleton.mp (flat_mem hz)]
        exact ⟨q6, mq, rfl⟩
end
end Sh
end
section
set_option Elab.async false
set_option linter.all false
set_option maxRecDepth 100000
set_option maxHeartbeats 4000000
namespace Sh
open PySem PySem.Spec PyProof.Rows L2
open C8 (pss_cut tCut)
open Evl (ixN_nat)
theorem sV_len (l : List Str) : (sV l).length = l.length := List.length_map ..
theorem sV_at {l : List Str} {j : Nat} (h : j < l.length) : (sV l)[j]? = some (.str l[j]) := by
  unfold sV
  rw [List.getElem?_map, List.getElem?_eq_getElem h]
  rfl
/-- names of the rows that are wanted -/
def NamAt (H H' : Hp) (D : Addr) (rows : List Row) : Prop := Same H H' ∧ H' D = some (.lst (rows.map fun q => V.str q.1))
theorem NamAt.start {H : Hp} {D : Addr} (h : H D = none) : NamAt H (upd H D (.lst [])) D [] := ⟨(Same.refl H).upd_new h, upd_same⟩
theorem NamAt.yes {H H1 : Hp} {D : Addr} {rows : List Row} {P : Row → Bool} {i : Nat} {q : Row} (hD : H D = none) (x : NamAt H H1 D ((rows.take i).filter P)) (hq : rows[i]? = some q) (hP : P q = true) :
    ∃ vs : List V, H1 D = some (.lst vs) ∧ vs.length ≤ i ∧ NamAt H (upd H1 D (.lst (vs ++ [.str q.1]))) D ((rows.take (i + 1)).filter P) := by
  refine ⟨_, x.2, ?_, x.1.upd_own hD, ?_⟩
  · rw [List.length_map]
    refine Nat.le_trans (List.length_filter_le _ _) ?_
    rw [List.length_take]
    omega
  · rw [upd_same, ← take_snoc hq, List.filter_append, List.filter_cons_of_pos hP, List.map_append]
    rfl
theorem NamAt.no {H H1 : Hp} {D : Addr} {rows : List Row} {P : Row → Bool} {i : Nat} {q : Row} (x : NamAt H H1 D ((rows.take i).filter P)) (hq : rows[i]? = some q) (hP : ¬ P q = true) : NamAt H H1 D ((rows.take (i + 1)).filter P) := by
  rw [← take_snoc hq, List.filter_append, List.filter_cons_of_neg hP, List.filter_nil, List.append_nil]
  exact x
section
variable {P : Program} {w : World} {K : PySem.W.Frag} {mg : Str → Option Value} {base : Heap}
end
end Sh
end
section
set_option Elab.async false
set_option linter.all false
set_option maxRecDepth 100000
set_option maxHeartbeats 4000000
namespace Sh
open PySem PySem.Spec PyProof.Rows L2
open C8 (pss_cut tCut)
open Evl (ixN_nat)
def spSpoilt51 : Sp := fun vs H Q _ => ∃ (x r p : Addr) (rows : List Row) (l : List Str), vs = [.ref x, .ref r, .ref p] ∧ BxAt H x ∧ RowsAt H r rows ∧ ROk 4 rows ∧ Tq H p (sV l) ∧ 1 ≤ l.length ∧ l.length ≤ 1809 ∧ ∀ (H' : Hp) (p' : Addr) (l' : List Str), Kp x H H' → BxAt H' x → Tq H' p' (sV l') → l'.length ≤ 1810 → Q (.ref p') H'
def fltI (rows : List Row) (l : List Str) : Int := match fault rows false l with
  | some i => ((i : Nat) : Int)
  | none => -1
def spFault51 : Sp := fun vs H Q _ => ∃ (ar p : Addr) (rows : List Row) (l : List Str), vs = [.ref ar, .ref p] ∧ H ar = some (.dK (wL rows)) ∧ ROk 4 rows ∧ Tq H p (sV l) ∧ l.length ≤ 2000 ∧ Q (.int (fltI rows l)) H
theorem take_sV (l : List Str) (k : Nat) : (sV l).take k = sV (l.take k) := by unfold sV; rw [List.map_take]
theorem drop_sV (l : List Str) (k : Nat) : (sV l).drop k = sV (l.drop k) := by unfold sV; rw [List.map_drop]
abbrev N_law_spoilt : List Str := ["box", "kinds", "plant", "way", "place", "word"]
theorem sc_law_spoilt : FnScope N_law_spoilt ["box", "kinds", "plant"] (defScope s_law_spoilt) := ⟨rfl, rfl, rfl, by decide +kernel, rfl, by decide +kernel, by decide +kernel⟩
abbrev N_law_fault : List Str := ["arity", "plant", "gap", "place"]
theorem sc_law_fault : FnScope N_law_fault ["arity", "plant"] (defScope s_law_fault) := ⟨rfl, rfl, rfl, by decide +kernel, rfl, by decide +kernel, by decide +kernel⟩
section
variable {P : Program} {w : World} {K : PySem.W.Frag} {mg : Str → Option Value} {base : Heap}
theorem ok_fault51 (T : Bl mg) (D : Def0 K mg "_law_fault" s_law_fault) : DefOk P w K mg base CX0 1 "_law_fault" spFault51 := by
  refine D.ok sc_law_fault (fun vs H Q E h => ?_) (fun _ _ _ _ _ _ us hl => match us, hl with | [_, _], _ => rfl) (fun f cdv A outer s' H vs Q E hr h => ?_)
  · obtain ⟨ar, p, rows, l, rfl, _⟩ := h
    rfl
  · obtain ⟨ar, p, rows, l, rfl, har, R, hp, hl, key⟩ := h
    have hu := hu_of hr
    refine ⟨_, (pss_cons (ps_set (i := 2) sc_law_fault.nd rfl (Or.inl rfl) pe_int)
      (pss_cons (ps_for PassesOwn.never rfl (pi_range1 (by rfl) T.b_range (pa_cons (pe_callB call_len_seq (by rfl) T.b_len boot_len (pa_cons (pv 1) pa_nil)) pa_nil)) (pg_name (i := 3) sc_law_fault.nd rfl (Or.inl rfl))
        (pss_cons (ps_if (PW.pt (pw_or (pt_cmpR op_eq (pv 2) pe_int (nomark _)) (pw_or1 (pt_cmp (pc_dnotin hu (pe_ix ix_tup (pv 1) (pv 3) (fun _ _ => rfl)) (pv 0))))))
          (pss_one (ps_ret (pv 3)))
          pss_nil)
        (pss_one (ps_set (i := 2) sc_law_fault.nd rfl (Or.inl rfl) (pe_op op_add (pe_op op_sub (pv 2) pe_int) (pe_dget hu (pv 0) (pe_ix ix_tup (pv 1) (pv 3) (fun _ _ => rfl)) (fun _ _ => rfl)))))))
      (pss_cons (ps_if (pt_cmpR op_gt (pv 2) pe_int (nomark _))
        (pss_one (ps_ret (pe_callB call_len_seq (by rfl) T.b_len boot_len (pa_cons (pv 1) pa_nil))))
        pss_nil)
      (pss_one (ps_ret (pe_un un_neg pe_int)))))), ?_⟩
    refine ⟨_, rfl, p, _, rfl, .inr hp.sq, _, rfl, by omega, by rw [sV_len]; omega, ?_⟩
    rw [sV_len, Int.toNat_natCast]
    refine for_range (n := l.length) (fun i σ H' => H' = H ∧ ∃ (g : Nat) (x3 : Option V), σ = [some (.ref ar), some (.ref p), some (.int (g : Nat)), x3] ∧ fl (wO rows false) (l.drop i) g i = fault rows false l) ⟨rfl, 1, none, rfl, rfl⟩ ?_ ?_
    · rintro i σ H1 hi ⟨e1, g, x3, rfl, hf⟩
      obtain rfl : H = H1 := e1.symm
      have e0 : (0 : Int) + (i : Nat) = ((i : Nat) : Int) := by omega
      rw [e0]
      rw [List.drop_eq_getElem_cons hi] at hf
      refine ⟨_, rfl, rfl, _, rfl, ite2 (fun c => ?_) (fun c => ?_)⟩
      · have hg : g = 0 := by
          have := of_decide_eq_true c
          injection this with this
          omega
        subst hg
        have hf : some i = fault rows false l := hf
        unfold fltI at key
        rw [← hf] at key
        exact ⟨_, rfl, key⟩
      obtain ⟨m, rfl⟩ : ∃ m, g = m + 1 := ⟨g - 1, by
        have : g ≠ 0 := fun q => c (by rw [q]; exact decide_eq_true rfl)
        omega⟩
      have hf : (match wO rows false l[i] with | none => some i | some k => fl (wO rows false) (l.drop (i + 1)) (m + k) (i + 1)) = fault rows false l := hf
      refine ⟨_, rfl, _, rfl, p, _, _, _, rfl, rfl, hp.sq, at_ofG (j := i) rfl (sV_at hi), _, rfl, ar, _, rfl, DGet.k (k := .inr l[i]) har, _, rfl, ?_⟩
      rcases nm_case R l[i] with q | q
      · rw [q.2.2.1]
        refine ifp (by decide) ?_
        unfold wO at hf
        rw [if_neg (by simp), if_pos (show nmO rows l[i] < 0 by omega)] at hf
        unfold fltI at key
        rw [← hf] at key
        exact ⟨_, rfl, key⟩
      · rw [q.2.2.1]
        refine ifn (by simp) ?_
        unfold wO at hf
        rw [if_neg (by simp), if_neg (show ¬ nmO rows l[i] < 0 by omega)] at hf
        have g0 := DGet.k (k := .inr l[i]) har
        rw [q.2.2.1] at g0
        refine ⟨_, rfl, _, _, rfl, rfl, _, rfl, _, rfl, _, rfl, p, _, _, _, rfl, rfl, hp.sq, at_ofG (j := i) rfl (sV_at hi), ar, _, rfl, g0, _, _, rfl, rfl, rfl, m + wR rows l[i], some (.int ((i : Nat) : Int)), ?_, hf⟩
        have e2 : ((m + 1 : Nat) : Int) - 1 + ((wR rows l[i] : Nat) : Int) = ((m + wR rows l[i] : Nat) : Int) := by omega
        rw [← e2]
        rfl
    · rintro σ H1 ⟨e1, g, x3, rfl, hf⟩
      obtain rfl : H = H1 := e1.symm
      rw [List.drop_length] at hf
      cases g with
      | zero =>
        have hf : none = fault rows false l := hf
        unfold fltI at key
        rw [← hf] at key
        exact ⟨_, rfl, _, _, rfl, rfl, _, rfl, ifn (by simp) ⟨_, rfl, key⟩⟩
      | succ m =>
        have hf : some l.length = fault rows false l := hf
        unfold fltI at key
        rw [← hf] at key
        refine ⟨_, rfl, _, _, rfl, rfl, _, rfl, ifp (decide_eq_true (by omega)) ⟨_, rfl, p, _, rfl, .inr hp.sq, ?_⟩⟩
        rw [sV_len]
        exact key
theorem ok_spoilt51 (T : Bl mg) (c_law_pick : DefOk P w K mg base CX0 1 "_law_pick" spPick51) (D : Def0 K mg "_law_spoilt" s_law_spoilt) : DefOk P w K mg base CX0 2 "_law_spoilt" spSpoilt51 := by
  refine D.ok sc_law_spoilt (fun vs H Q E h => ?_) (fun _ _ _ _ _ _ us hl => match us, hl with | [_, _, _], _ => rfl) (fun f cdv A outer s' H vs Q E hr h => ?_)
  · obtain ⟨x, r, p, rows, l, rfl, _⟩ := h
    rfl
  · obtain ⟨x, r, p, rows, l, rfl, hx, hR, R, hp, h1, hl, key⟩ := h
    have r1 := R.pos
    have r4 := R.len
    refine ⟨_, (pss_cons (ps_set (i := 3) sc_law_spoilt.nd rfl (Or.inl rfl) (pe_d c_law_pick (hr.mono (by decide)) pass0 (pa_cons (pv 0) (pa_cons pe_int pa_nil))))
      (pss_cons (ps_set (i := 4) sc_law_spoilt.nd rfl (Or.inl rfl) (pe_d c_law_pick (hr.mono (by decide)) pass0 (pa_cons (pv 0) (pa_cons (pe_callB call_len_seq (by rfl) T.b_len boot_len (pa_cons (pv 2) pa_nil)) pa_nil))))
      (pss_cons (ps_set (i := 5) sc_law_spoilt.nd rfl (Or.inl rfl) (pe_ix ix_tup (pe_ix ix_list (pv 1) (pe_d c_law_pick (hr.mono (by decide)) pass0 (pa_cons (pv 0) (pa_cons (pe_callB call_len_seq (by rfl) T.b_len boot_len (pa_cons (pv 1) pa_nil)) pa_nil))) (fun _ _ => rfl)) pe_int (fun _ _ => rfl)))
      (pss_cut (ps_if (pt_cmpR op_eq (pv 3) pe_int (nomark _))
        (pss_one (ps_set (i := 5) sc_law_spoilt.nd rfl (Or.inl rfl) (pe_ix ix_list (pe_lst (pa_cons pe_str (pa_cons pe_str (pa_cons pe_str (pa_cons (pe_op op_add_str (pv 5) pe_str) pa_nil))))) (pe_d c_law_pick (hr.mono (by decide)) pass0 (pa_cons (pv 0) (pa_cons pe_int pa_nil))) (fun _ _ => rfl))))
        pss_nil)
      (pss_cons (ps_if (pt_cmpR op_eq (pv 3) pe_int (nomark _))
        (pss_one (ps_ret (pe_slice sl_tupA (pv 2) po_none (po_some (pv 4)))))
        pss_nil)
      (pss_cons (ps_if (pt_cmpR op_eq (pv 3) pe_int (nomark _))
        (pss_one (ps_ret (pe_op op_catA (pv 2) (pe_tup (pa_cons (pv 5) pa_nil)))))
        pss_nil)
      (pss_one (ps_ret (pe_op op_catA (pe_op op_catA (pe_slice sl_tupA (pv 2) po_none (po_some (pv 4))) (pe_tup (pa_cons (pv 5) pa_nil))) (pe_slice sl_tupA (pv 2) (po_some (pe_op op_add (pv 4) pe_int)) po_none)))))))))), ?_⟩
    refine ⟨_, rfl, x, 4, rfl, hx, by decide, by decide, fun H1 way k1 b1 _ _ => ?_⟩
    have p1 := tqk hp hx k1
    refine ⟨_, rfl, _, rfl, p, _, rfl, .inr p1.sq, ?_⟩
    rw [sV_len]
    refine ⟨x, _, rfl, b1, by omega, by omega, fun H2 pl k2 b2 pl0 pl1 => ?_⟩
    have k02 := k1.trans k2
    have R2 := hR.kp hx k02
    obtain ⟨xs2, y2, yl2⟩ := R2.len (K := K)
    refine ⟨_, rfl, _, rfl, _, rfl, r, _, rfl, .inl y2, ?_⟩
    rw [yl2]
    refine ⟨x, _, rfl, b2, by omega, by omega, fun H3 d k3 b3 d0 d1 => ?_⟩
    obtain ⟨ts3, t3, q3, f1, f2, f3, f4⟩ := (R2.kp b2 k3).pick d d0 d1
    refine ⟨r, _, _, _, rfl, rfl, SqL.of f1, f2, t3, _, _, _, rfl, rfl, SqT.of f3, atI_nat (j := 0) rfl, ?_⟩
    have k03 := k02.trans k3
    have w8 := (TOk.nm (R.nm _ f4)).1
    have zl : q3.1.length + ("Z" : Str).length ≤ sizeLine := by
      have e : ("Z" : Str).length = 1 := by decide +kernel
      rw [e, str_len]
      exact le_line (by omega)
    -- way == 0
    refine ⟨fun σ H' => Kp x H H' ∧ BxAt H' x ∧ ∃ (z : Str), σ = [some (.ref x), some (.ref r), some (.ref p), some (.int way), some (.int pl), some (.str z)], ?_, ?_⟩
    · refine ⟨_, rfl, rfl, _, rfl, ite2 (fun _ => ?_) (fun _ => ⟨k03, b3, _, rfl⟩)⟩
      refine ⟨_, rfl, _, _, rfl, rfl, zl, le_line (show 4 ≤ 10000000 by decide), fun m hm => ?_⟩
      have nm := b3.ne hm
      have s4 := (Same.refl H3).upd_new (o := .lst [V.str "*", .str "Z", .str "", .str (q3.1 ++ ("Z" : Str))]) hm
      have m4 : (upd H3 m (.lst [V.str "*", .str "Z", .str "", .str (q3.1 ++ ("Z" : Str))])) m = some (.lst [V.str "*", .str "Z", .str "", .str (q3.1 ++ ("Z" : Str))]) := upd_same
      refine ⟨_, rfl, x, 4, rfl, b3.same s4, by decide, by decide, fun H5 e k5 b5 e0 e1 => ?_⟩
      obtain ⟨z, hz⟩ : ∃ z : Str, ([V.str "*", .str "Z", .str "", .str (q3.1 ++ ("Z" : Str))] : List V)[e.toNat]? = some (.str z) := by
        rcases (show e.toNat = 0 ∨ e.toNat = 1 ∨ e.toNat = 2 ∨ e.toNat = 3 by omega) with h | h | h | h <;> rw [h]
        · exact ⟨_, rfl⟩
        · exact ⟨_, rfl⟩
        · exact ⟨_, rfl⟩
        · exact ⟨_, rfl⟩
      exact ⟨m, _, _, _, rfl, rfl, SqL.of (k5 _ _ m4 nm), at_ofG (j := e.toNat) (by omega) hz, (k03.trans (Kp.same s4)).trans k5, b5, z, rfl⟩
    rintro σ H4 ⟨k4, b4, z, rfl⟩
    have p4 := tqk hp hx k4
    have ek : pl = ((pl.toNat : Nat) : Int) := by omega
    have lek : pl.toNat ≤ (sV l).length := by rw [sV_len]; omega
    have out : ∀ {H' : Hp} {q : Addr} {m : List Str}, Same H4 H' → Tq H' q (sV m) → m.length ≤ 1810 → Q (.ref q) H' := fun s h hm => key _ _ _ (k4.trans (Kp.same s)) (b4.same s) h hm
    refine ⟨_, rfl, rfl, _, rfl, ite2 (fun _ => ?_) (fun _ => ?_)⟩
    · refine ⟨_, rfl, _, rfl, _, rfl, ?_⟩
      rw [ek]
      refine slA_lo p4 lek fun q H5 s5 t5 => ?_
      rw [take_sV] at t5
      exact out s5 t5 (by rw [List.length_take]; omega)
    refine ⟨_, rfl, rfl, _, rfl, ite2 (fun _ => ?_) (fun _ => ?_)⟩
    · refine ⟨_, rfl, _, rfl, le_line (show 1 ≤ 10000000 by decide), fun a ha => ?_⟩
      have s5 := (Same.refl H4).upd_new (o := .tup [.str z]) ha
      have t5 : Tq (upd H4 a (.tup [.str z])) a (sV [z]) := .of upd_same
      refine catA_s (p4.same s5) t5 (by show _ + 1 ≤ _; omega) fun q H6 s6 t6 => ?_
      exact out (s5.trans s6) t6 (by rw [List.length_append]; show _ + 1 ≤ _; omega)
    · refine ⟨_, rfl, _, rfl, _, rfl, ?_⟩
      rw [ek]
      refine slA_lo p4 lek fun q H5 s5 t5 => ?_
      rw [take_sV] at t5
      refine ⟨_, rfl, le_line (show 1 ≤ 10000000 by decide), fun a ha => ?_⟩
      have s6 := (Same.refl H5).upd_new (o := .tup [.str z]) ha
      have t6 : Tq (upd H5 a (.tup [.str z])) a (sV [z]) := .of upd_same
      generalize upd H5 a (.tup [.str z]) = H6 at s6 t6
      refine catA_s (t5.same s6) t6 (by rw [List.length_take]; show _ + 1 ≤ _; omega) fun q7 H7 s7 t7 => ?_
      have s47 := (s5.trans s6).trans s7
      refine ⟨_, rfl, _, rfl, _, _, rfl, rfl, _, rfl, ?_⟩
      have ek1 : ((pl.toNat : Nat) : Int) + 1 = ((pl.toNat + 1 : Nat) : Int) := by omega
      rw [ek1]
      unfold tNoPart
      refine slA_hi (i := pl.toNat + 1) (p4.same s47) (by rw [sV_len]; omega) fun q8 H8 s8 t8 => ?_
      rw [drop_sV] at t8
      refine catA_s (t7.same s8) t8 (by rw [List.length_append, List.length_take, List.length_drop]; show _ + 1 + _ ≤ _; omega) fun q9 H9 s9 t9 => ?_
      exact out ((s47.trans s8).trans s9) t9 (by rw [List.length_append, List.length_append, List.length_take, List.length_drop]; show _ + 1 + _ ≤ _; omega)
end
end Sh
end
section
set_option Elab.async false
set_option linter.all false
set_option maxRecDepth 100000
set_option maxHeartbeats 2000000
namespace Sh
open PySem PySem.Spec PyProof.Rows L2
open C8 (pss_cut tCut)
open Evl (ixN_nat)
/-- what is begun: with so many forests behind it, it is a plant or a stump -/
def Opn {α : Type} (w : α → Nat) (l : List α) (n : Nat) : Prop := ∀ m, Mth.forest w m n = true → Mth.forest w (l ++ m) 1 = true
theorem Opn.nil {α : Type} {w : α → Nat} : Opn w [] 1 := fun _ h => h
theorem Opn.snoc {α : Type} {w : α → Nat} {l : List α} {n : Nat} (h : Opn w l (n + 1)) (z : α) : Opn w (l ++ [z]) (n + w z) := fun m hm => by
  rw [List.append_assoc]
  refine h _ ?_
  show Mth.forest w (z :: m) (n + 1) = true
  rw [Mth.forest]
  rw [Nat.add_comm] at hm
  first
  | exact hm
  | (rw [Nat.add_comm]; exact hm)
theorem Opn.done {α : Type} {w : α → Nat} {l : List α} (h : Opn w l 0) : Mth.forest w l 1 = true := by
  have q := h [] rfl
  rw [List.append_nil] at q
  exact q
theorem TupsAt.len {H : Hp} {ts : List Addr} {rows : List Row} (x : TupsAt H ts rows) : ts.length = rows.length := x.1
theorem wR_row {rows : List Row} {m : Int} (R : ROk m rows) {q : Row} (h : q ∈ rows) : ((wR rows q.1 : Nat) : Int) = q.2 := by
  obtain ⟨i, hi, rfl⟩ := List.mem_iff_getElem.mp h
  exact row_at R hi
section
variable {P : Program} {w : World} {K : PySem.W.Frag} {mg : Str → Option Value} {base : Heap} {C : Addr}
end
end Sh
end
section
set_option Elab.async false
set_option linter.all false
set_option maxRecDepth 100000
set_option maxHeartbeats 2000000
namespace PySem
open Sem (wp)
section
variable {prog : Program} {w : World} {K : Type} [DecidableEq K] (knd : KeyKind prog w K)
def IsNestKey (h : Heap) (k : K × List K) (a : Addr) : Prop := ∃ o x b n, h.get? a = some o ∧ o.cls = .type "tuple" ∧ o.data = .seq #[x, .ref b] n ∧ knd.is k.1 x = true ∧ IsTupleKey knd h k.2 b
def nestHash (k : K × List K) : Int := reduceHash (Builtin.Tuple.tupleHashOf [knd.hash k.1, tupleKeyHash knd k.2])
variable {knd}
theorem IsNestKey.typeIs {s : Shared} {k : K × List K} {a : Addr} (x : IsNestKey knd s.heap k a) : s.TypeIs (.ref a) "tuple" := let ⟨o, _, _, _, ho, hc, _⟩ := x; ⟨o, ho, hc⟩
theorem IsNestKey.inj {h : Heap} {a : Addr} {k l : K × List K} (hx : IsNestKey knd h k a) (hy : IsNestKey knd h l a) : k = l := by
  obtain ⟨o, x, b, n, ho, _, hd, hi, ht⟩ := hx
  obtain ⟨o', x', b', n', ho', _, hd', hi', ht'⟩ := hy
  obtain rfl : o = o' := Option.some.inj (ho.symm.trans ho')
  rw [hd] at hd'
  injection hd' with h1 _
  have h1 : [x, Value.ref b] = [x', .ref b'] := congrArg Array.toList h1
  injection h1 with e1 e2
  injection e2 with e3 _
  injection e3 with e4
  subst e1 e4
  exact Prod.ext (knd.inj _ _ _ hi hi') (ht.inj ht')
theorem IsNestKey.keeps {h h' : Heap} {k : K × List K} {a d : Addr} {o : Obj} {es ep} (x : IsNestKey knd h k a) (ho : h.get? d = some o) (hd : o.data = .dict es ep) (hs : Heap.SameBut d h h') : IsNestKey knd h' k a := by
  obtain ⟨o', x, b, n, ho', hc, hd', hi, ht⟩ := x
  have hne : a ≠ d := by
    rintro rfl
    obtain rfl : o' = o := Option.some.inj (ho'.symm.trans ho)
    rw [hd] at hd'
    exact nomatch hd'
  exact ⟨o', x, b, n, (hs.2 a hne).trans ho', hc, hd', hi, ht.keeps ho hd hs⟩
variable {A : Around} {E : Value → Shared → Prop} {s : Shared}
theorem pyHash_nest {k : K × List K} {a : Addr} {Q : Int → Shared → Prop} (hu : A.units + 1 < cLine) (hk : IsNestKey knd s.heap k a) (h : Q (nestHash knd k) { s with toks := s.toks + (k.2.length + 3) }) :
    wpAny (model prog w) A (pyHash (.ref a)) Q E s := by
  have hT := hk.typeIs
  obtain ⟨o, x, b, n, ho, _, hd, hi, ht⟩ := hk
  unfold pyHash
  first | unfold pyHashByItsType | skip
  first | refine wpAny_bind (wpAny_cRoomFor_or (.inr (by omega)) ?_) | skip
  refine wpAny_bind (wpAny_specialOf hT F.slot_tuple_hash.lookup ?_)
  show wpAny _ _ (if (some (Value.builtin "tuple.__hash__") == some Value.none) = true then _ else _) Q E s
  rw [if_neg (by rw [beq_builtin_none]; exact Bool.false_ne_true)]
  refine wpAny_bind (wpAny_specialOf hT F.slot_tuple_hash.lookup ?_)
  show wpAny _ _ (callSpecialIfBoundUnlessNone? (.ref a) "__hash__" _ >>= _) Q E s
  refine wpAny_bind (wpAny_callSpecialIfBoundUnlessNone?_slot hT F.slot_tuple_hash (wpAny_call_entry F.slot_tuple_hash hT F.entry_tuple_hash ?_ (F.args_tuple_hash_1 _)))
  show wpAny _ _ (Builtin.Tuple.tupleItemsOf (.ref a) >>= _) _ _ s
  refine wpAny_bind (wpAny_tupleItemsOf ho hd ?_)
  refine wpAny_bind ?_
  rw [← Array.forIn_toList]
  refine wpAny_forIn_list _
    (fun rest (c : Array Int) s' => (rest = [x, .ref b] ∧ c.toList = [] ∧ s' = s) ∨ (rest = [.ref b] ∧ c.toList = [knd.hash k.1] ∧ s' = { s with toks := s.toks + 1 }) ∨ (rest = [] ∧ c.toList = [knd.hash k.1, tupleKeyHash knd k.2] ∧ s' = { s with toks := s.toks + 1 + (k.2.length + 1) }))
    _ ?_ ?_ _ _ (.inl ⟨rfl, rfl, rfl⟩)
  · rintro y rest c s' (⟨er, hb, rfl⟩ | ⟨er, hb, rfl⟩ | ⟨er, _⟩)
    · injection er with e1 e2
      subst e1 e2
      refine wpAny_bind (knd.pyHash hi ?_)
      first
        | exact wpAny_pure (.inr (.inl ⟨rfl, by simp [hb], rfl⟩))
        | exact wpAny_bind (wpAny_pure (wpAny_pure (.inr (.inl ⟨rfl, by simp [hb], rfl⟩))))
    · injection er with e1 e2
      subst e1 e2
      refine wpAny_bind (wpAny_pyHash_tuple (knd := knd) (ks := k.2) (s := { s with toks := s.toks + 1 }) (by show A.units + 1 < cLine; exact hu) ht ?_)
      first
        | exact wpAny_pure (.inr (.inr ⟨rfl, by simp [hb], rfl⟩))
        | exact wpAny_bind (wpAny_pure (wpAny_pure (.inr (.inr ⟨rfl, by simp [hb], rfl⟩))))
    · exact nomatch er
  · rintro c s' (⟨er, _⟩ | ⟨er, _⟩ | ⟨_, hb, rfl⟩)
    · exact nomatch er
    · exact nomatch er
    show wpAny _ _ (retInt (Builtin.Tuple.tupleHashOf c.toList)) _ _ _
    rw [hb]
    refine wpAny_ret_mkInt ?_
    show wpAny _ _ (if (decide (-(2 : Int) ^ 63 ≤ Builtin.Tuple.tupleHashOf [knd.hash k.1, tupleKeyHash knd k.2]) && decide (Builtin.Tuple.tupleHashOf [knd.hash k.1, tupleKeyHash knd k.2] < 2 ^ 63)) = true then _ else _) Q E _
    unfold nestHash reduceHash at h
    have ek : s.toks + 1 + (k.2.length + 1) + 1 = s.toks + (k.2.length + 3) := by omega
    by_cases hr : (decide (-(2 : Int) ^ 63 ≤ Builtin.Tuple.tupleHashOf [knd.hash k.1, tupleKeyHash knd k.2]) && decide (Builtin.Tuple.tupleHashOf [knd.hash k.1, tupleKeyHash knd k.2] < 2 ^ 63)) = true
    · rw [if_pos hr]
      rw [if_pos hr] at h
      exact wpAny_pure (by rw [← ek] at h; exact h)
    · rw [if_neg hr]
      rw [if_neg hr] at h
      exact wpAny_bind (wpAny_rule (wpAny_pure (by rw [← ek] at h; exact h)))
theorem nest_eq_tree {k l : K × List K} {a c : Addr} {P : Fin → Shared → Prop} (hu : A.units < cLine) (hx : IsNestKey knd s.heap k a) (hy : IsNestKey knd s.heap l c) (h : P (.done (.ret (.bool (decide (k = l))))) s) :
    wpAny (model prog w) A (Builtin.«tuple.__eq__» ⟨[.ref a, .ref c], []⟩) P E s := by
  have hTb := hy.typeIs
  obtain ⟨oa, x, b, na, hoa, _, hda, hia, hta⟩ := hx
  obtain ⟨ob, y, d, nb, hob, _, hdb, hib, htb⟩ := hy
  have ed : decide (k = l) = (decide (k.1 = l.1) && decide (k.2 = l.2)) := by
    obtain ⟨k1, k2⟩ := k
    obtain ⟨l1, l2⟩ := l
    by_cases h1 : k1 = l1 <;> by_cases h2 : k2 = l2 <;> simp [h1, h2]
  rw [ed] at h
  show wpAny _ _ (isInstance (.ref c) (.type "tuple") >>= _) _ _ s
  refine wpAny_bind (wpAny_isInstance hTb isSubtype_tuple_tuple ?_)
  simp only [Bool.not_true, Bool.false_eq_true, if_false]
  refine wpAny_bind (wpAny_tupleItemsOf hoa hda ?_)
  refine wpAny_bind (wpAny_tupleItemsOf hob hdb ?_)
  refine wpAny_bind ?_
  refine wpAny_forIn_list _
    (fun rest r s' => r.1 = none ∧ s' = s ∧ (rest = [(x, y), (Value.ref b, .ref d)] ∨ (rest = [(Value.ref b, .ref d)] ∧ decide (k.1 = l.1) = true) ∨ (rest = [] ∧ decide (k.1 = l.1) = true ∧ decide (k.2 = l.2) = true)))
    _ ?_ ?_ _ _ ⟨rfl, rfl, .inl rfl⟩
  · rintro ⟨u, v⟩ rest r s' ⟨hr, rfl, er | ⟨er, e1⟩ | ⟨er, _⟩⟩
    · injection er with q1 q2
      injection q1 with q3 q4
      subst q2 q3 q4
      refine wpAny_bind (knd.eqBool (a := k.1) (b := l.1) hia hib ?_)
      by_cases hk : k.1 = l.1
      · rw [decide_eq_true hk]
        simp only [Bool.not_true, Bool.false_eq_true, if_false]
        exact wpAny_pure ⟨by first | trivial | rfl, by first | trivial | rfl, .inr (.inl ⟨by first | trivial | rfl, by first | trivial | exact decide_eq_true hk⟩)⟩
      · rw [decide_eq_false hk]
        simp only [Bool.not_false, if_true]
        rw [decide_eq_false hk] at h
        exact wpAny_bind (wpAny_pure (wpAny_pure (wpAny_pure h)))
    · injection er with q1 q2
      injection q1 with q3 q4
      subst q2 q3 q4
      refine wpAny_bind (wpAny_eqBool_tuple (knd := knd) (x := k.2) (y := l.2) (by show A.units < cLine; exact hu) hta htb ?_)
      by_cases hk : k.2 = l.2
      · rw [decide_eq_true hk]
        simp only [Bool.not_true, Bool.false_eq_true, if_false]
        exact wpAny_pure ⟨by first | trivial | rfl, by first | trivial | rfl, .inr (.inr ⟨by first | trivial | rfl, by first | exact e1 | trivial, by first | trivial | exact decide_eq_true hk⟩)⟩
      · rw [decide_eq_false hk]
        simp only [Bool.not_false, if_true]
        rw [decide_eq_false hk, e1] at h
        exact wpAny_bind (wpAny_pure (wpAny_pure (wpAny_pure h)))
    · exact nomatch er
  · rintro ⟨r1, r2⟩ s' ⟨hr, rfl, er | ⟨er, _⟩ | ⟨_, e1, e2⟩⟩
    · exact nomatch er
    · exact nomatch er
    simp only at hr
    subst hr
    refine wpAny_pure ?_
    rw [e1, e2] at h
    exact h
theorem eqBool_nest {k l : K × List K} {a c : Addr} {Q : Bool → Shared → Prop} (hu : A.units + 1 < cLine) (hx : IsNestKey knd s.heap k a) (hy : IsNestKey knd s.heap l c) (h : Q (decide (k = l)) s) :
    wpAny (model prog w) A (eqBool (.ref a) (.ref c)) Q E s := by
  unfold eqBool
  try with_reducible refine wpAny_holding ?_
  show wpAny _ _ (if (Value.ref a == Value.ref c) = true then _ else _) Q E s
  by_cases hab : (Value.ref a == Value.ref c) = true
  · rw [if_pos hab]
    have e : a = c := by have := eq_of_beq hab; injection this
    subst e
    obtain rfl := hx.inj hy
    exact wpAny_bind (wpAny_rule (wpAny_pure (by simpa using h)))
  · rw [if_neg hab]
    exact wpAny_bind (wpAny_richCompare_same_room (op := .Eq) hx.typeIs hy.typeIs F.slot_tuple_eq
      (wpAny_call_entry F.slot_tuple_eq hx.typeIs F.entry_tuple_eq (nest_eq_tree (by show A.units + 1 < cLine; exact hu) hx hy ⟨_, rfl, (fun e => nomatch e), wpAny_truthy_bool h⟩) (F.args_tuple_eq_2 _ _)) (by omega))
theorem quiet_tup {ks : List K} {a : Addr} {n : Nat} {Q : Bool → Shared → Prop} (hk : IsTupleKey knd s.heap ks a) (h : Q true s) : wpAny (model prog w) A (eqIsQuiet (n + 1) (.ref a)) Q E s := by
  have hT := hk.typeIs
  obtain ⟨o, items, n, ho, _, hd, hi⟩ := hk
  unfold eqIsQuiet
  refine wpAny_bind (wpAny_specialOf hT F.slot_tuple_eq.lookup ?_)
  show wpAny _ _ (isInstance (.ref a) (.type "tuple") >>= _) _ _ s
  refine wpAny_bind (wpAny_isInstance hT isSubtype_tuple_tuple ?_)
  simp only [Bool.not_true, Bool.false_eq_true, if_false]
  refine wpAny_bind (wpAny_seqItems ho hd ?_)
  refine wpAny_bind ?_
  show wpAny _ _ (forIn items _ _) _ _ s
  rw [← Array.forIn_toList]
  refine wpAny_forIn_list _ (fun rest r s' => r.1 = none ∧ s' = s ∧ ∀ v ∈ rest, carriedByValue v = true) _ ?_ ?_ _ _ ⟨rfl, rfl, hi.byValue⟩
  · rintro v rest r s' ⟨hr, rfl, hall⟩
    rw [eqIsQuiet_byValue _ (hall v List.mem_cons_self)]
    refine wpAny_bind (wpAny_pure ?_)
    simp only [Bool.not_true, Bool.false_eq_true, if_false]
    exact wpAny_pure ⟨rfl, rfl, fun u hu' => hall u (List.mem_cons_of_mem _ hu')⟩
  · rintro ⟨r1, r2⟩ s' ⟨hr, rfl, _⟩
    simp only at hr
    subst hr
    exact wpAny_pure h
theorem quiet_nest {k : K × List K} {a : Addr} {Q : Bool → Shared → Prop} (hk : IsNestKey knd s.heap k a) (h : Q true s) : wpAny (model prog w) A (eqIsQuiet 8 (.ref a)) Q E s := by
  have hT := hk.typeIs
  obtain ⟨o, x, b, n, ho, _, hd, hi, ht⟩ := hk
  unfold eqIsQuiet
  refine wpAny_bind (wpAny_specialOf hT F.slot_tuple_eq.lookup ?_)
  show wpAny _ _ (isInstance (.ref a) (.type "tuple") >>= _) _ _ s
  refine wpAny_bind (wpAny_isInstance hT isSubtype_tuple_tuple ?_)
  simp only [Bool.not_true, Bool.false_eq_true, if_false]
  refine wpAny_bind (wpAny_seqItems ho hd ?_)
  refine wpAny_bind ?_
  show wpAny _ _ (forIn (#[x, Value.ref b] : Array Value) _ _) _ _ s
  rw [← Array.forIn_toList]
  refine wpAny_forIn_list _ (fun rest r s' => r.1 = none ∧ s' = s ∧ ∀ v ∈ rest, v = x ∨ v = .ref b) _ ?_ ?_ _ _ ⟨rfl, rfl, fun v hv => ?_⟩
  · rintro v rest r s' ⟨hr, rfl, hall⟩
    have rest' : ∀ u ∈ rest, u = x ∨ u = .ref b := fun u hu' => hall u (List.mem_cons_of_mem _ hu')
    rcases hall v List.mem_cons_self with rfl | rfl
    · rw [eqIsQuiet_byValue _ (knd.byValue _ _ hi)]
      refine wpAny_bind (wpAny_pure ?_)
      simp only [Bool.not_true, Bool.false_eq_true, if_false]
      exact wpAny_pure ⟨rfl, rfl, rest'⟩
    · refine wpAny_bind (quiet_tup ht ?_)
      simp only [Bool.not_true, Bool.false_eq_true, if_false]
      exact wpAny_pure ⟨rfl, rfl, rest'⟩
  · rintro ⟨r1, r2⟩ s' ⟨hr, rfl, _⟩
    simp only at hr
    subst hr
    exact wpAny_pure h
  · have hv : v ∈ [x, Value.ref b] := hv
    rcases List.mem_cons.mp hv with e | e
    · exact .inl e
    · exact .inr (List.mem_singleton.mp e)
end
def nestKind {prog : Program} {w : World} {K : Type} [DecidableEq K] (knd : KeyKind prog w K) : HeapKind prog w (K × List K) where
  is := IsNestKey knd
  hash := nestHash knd
  draws := fun k => k.2.length + 3
  room := fun A => A.units + 1 < cLine
  inj := fun hx hy => hx.inj hy
  keeps := fun x ho hd hs => x.keeps ho hd hs
  pyHash := fun hu hk h => pyHash_nest hu hk h
  eqBool := fun hu hx hy h => eqBool_nest hu hx hy h
  quiet := fun hk h => quiet_nest hk h
end PySem
end
section
set_option Elab.async false
set_option linter.all false
set_option maxRecDepth 100000
set_option maxHeartbeats 2000000
namespace L2
open PySem PySem.Spec PyProof.Rows
abbrev NKey : Type := Key × List Key
/-- the pair at a -/
def NKAt (H : Hp) (k : NKey) (a : Addr) : Prop := ∃ b, H a = some (.tup [kV k.1, .ref b]) ∧ H b = some (.tup (k.2.map kV))
abbrev NT (H : Hp) : List (NKey × V) → List (NKey × Addr × Value) → Prop := Paired fun p q => p.1 = q.1 ∧ NKAt H p.1 q.2.1 ∧ RelV p.2 q.2.2
/-- the dict's own object -/
def NdO (P : Program) (w : World) (a : Addr) (xs : List (NKey × Addr × Value)) : HO := .ext fun h => ∃ o es ep, h.get? a = some o ∧ o.ExactDict ∧ o.data = .dict es ep ∧ es.toList = xs.map (entryOfKey (nestKind (mixKind P w))) ∧ (xs.map (·.1)).Nodup
/-- the dict at a holds kvs -/
def NdAt (P : Program) (w : World) (H : Hp) (a : Addr) (kvs : List (NKey × V)) : Prop := kvs.length ≤ sizeLine ∧ (a == sysModules) = false ∧ ∃ xs, NT H kvs xs ∧ H a = some (NdO P w a xs)
theorem NKAt.keeps {H H' : Hp} {k : NKey} {a : Addr} (x : NKAt H k a) (ht : ∀ b ys, H b = some (.tup ys) → H' b = some (.tup ys)) : NKAt H' k a := by
  obtain ⟨b, h1, h2⟩ := x
  exact ⟨b, ht _ _ h1, ht _ _ h2⟩
theorem NT.keeps {H H' : Hp} {kvs : List (NKey × V)} {xs : List (NKey × Addr × Value)} (r : NT H kvs xs) (ht : ∀ b ys, H b = some (.tup ys) → H' b = some (.tup ys)) : NT H' kvs xs :=
  Paired.mapP r fun _ _ z => ⟨z.1, z.2.1.keeps ht, z.2.2⟩
theorem NdAt.keeps {P : Program} {w : World} {H H' : Hp} {a : Addr} {kvs : List (NKey × V)} (x : NdAt P w H a kvs) (ht : ∀ b ys, H b = some (.tup ys) → H' b = some (.tup ys)) (ha : H' a = H a) : NdAt P w H' a kvs := by
  obtain ⟨h1, h2, xs, r, h3⟩ := x
  exact ⟨h1, h2, xs, r.keeps ht, by rw [ha]; exact h3⟩
theorem NT.val {H : Hp} {kvs : List (NKey × V)} {xs : List (NKey × Addr × Value)} (r : NT H kvs xs) (k : NKey) : RelO (valV kvs k) ((atKey xs k).map (·.2)) := by
  induction r with
  | nil => exact True.intro
  | @cons p q ps qs h t ih =>
    obtain ⟨h1, _, h2⟩ := h
    by_cases e : p.1 = k
    · have b : atKey (q :: qs) k = some q.2 := by simp [atKey, List.find?_cons, h1.symm.trans e]
      rw [valV_pos e, b]
      exact h2
    · have e' : ¬ q.1 = k := fun z => e (h1.trans z)
      have b : atKey (q :: qs) k = atKey qs k := by simp [atKey, List.find?_cons, e']
      rw [valV_neg e, b]
      exact ih
theorem NT.new {H : Hp} {kvs : List (NKey × V)} {xs : List (NKey × Addr × Value)} (r : NT H kvs xs) {k : NKey} {b : Addr} {y : V} {u : Value} (hk : valV kvs k = none) (hb : NKAt H k b) (ry : RelV y u) : NT H (kvs ++ [(k, y)]) (storedH xs k b u) := by
  have e := (r.val k).isSome_eq
  rw [hk, Option.isSome_map] at e
  have hn : atKey xs k = none := by
    cases h : atKey xs k with
    | none => rfl
    | some p => rw [h] at e; cases e
  rw [storedH_new hn]
  exact Paired.snoc r ⟨rfl, hb, ry⟩
section
variable {P : Program} {w : World} {H : Hp} {h : Heap} {a : Addr}
theorem nkey_of {k : NKey} (ok : HOk P w H h) (e : NKAt H k a) : (nestKind (mixKind P w)).is h k a := by
  obtain ⟨b, h1, h2⟩ := e
  obtain ⟨_, its, r, o, g1, g2, n, g3⟩ := (show ObjOk P w H h a (.tup [kV k.1, .ref b]) from ok a _ h1)
  obtain ⟨u1, u2, rfl, r1, r2⟩ := vals2 r
  obtain rfl : u2 = Value.ref b := r2
  exact ⟨o, u1, b, _, g1, g2, g3, kV_is r1, key_of ok h2⟩
theorem nd_rd {kvs : List (NKey × V)} (ok : HOk P w H h) (e : NdAt P w H a kvs) : kvs.length ≤ sizeLine ∧ (a == sysModules) = false ∧ ∃ xs, NT H kvs xs ∧ H a = some (NdO P w a xs) ∧ h.DictOfH (nestKind (mixKind P w)) a xs := by
  obtain ⟨z, y, xs, r, h3⟩ := e
  obtain ⟨⟨o, es, ep, g1, g2, g3, g4, g5⟩, _⟩ := (show ObjOk P w H h a (NdO P w a xs) from ok a _ h3)
  refine ⟨z, y, xs, r, h3, o, es, ep, g1, g2, g3, g4, fun x hx => ?_, g5⟩
  have all : ∀ {l : List (NKey × V)} {m : List (NKey × Addr × Value)}, NT H l m → ∀ x ∈ m, (nestKind (mixKind P w)).is h x.1 x.2.1 := by
    intro l m q
    induction q with
    | nil => intro x hx; exact nomatch hx
    | @cons p q ps qs hq t ih =>
      intro x hx
      rcases List.mem_cons.mp hx with e | hx
      · subst e
        exact nkey_of ok (by rw [← hq.1]; exact hq.2.1)
      · exact ih x hx
  exact all r x hx
theorem ndO_ok {xs : List (NKey × Addr × Value)} (dd : h.DictOfH (nestKind (mixKind P w)) a xs) : ObjOk P w H h a (NdO P w a xs) := by
  obtain ⟨o, es, ep, g1, g2, g3, g4, _, g5⟩ := dd
  exact ⟨⟨o, es, ep, g1, g2, g3, g4, g5⟩, ⟨o, g1⟩, fun h1 h2 ⟨o', es', ep', q1, q2⟩ k => ⟨o', es', ep', k _ q1, q2⟩⟩
end
section
variable {X : Cx} {pins : List (Addr × Obj)} {σ : St} {H : Hp} {s : Shared} {a b : Addr} {kvs : List (NKey × V)} {k : NKey} {v : V} {r : Value} {A : Around} {E : Value → Shared → Prop}
theorem nest_room (hu : A.units + 2 < cLine) : (nestKind (mixKind X.prog X.w)).room A.in1 := hu
theorem nd_getItem {Q : Value → Shared → Prop} (hu : A.units + 2 < cLine) (I : Inv X pins σ H s) (e : NdAt X.prog X.w H a kvs) (eb : NKAt H k b) (l : valV kvs k = some v) (h : ∀ w' s', Inv X pins σ H s' → RelV v w' → Q w' s') :
    wpAny (model X.prog X.w) A (getItem (.ref a) (.ref b)) Q E s := by
  obtain ⟨z, hd, xs, rel, _, dd⟩ := nd_rd I.hok e
  obtain ⟨w', hw, rw'⟩ := RelO.some_of (v := v) (o := (atKey xs k).map (·.2)) (by rw [← l]; exact rel.val k)
  obtain ⟨p, hp, hp2⟩ := Option.map_eq_some_iff.mp hw
  refine wpAny_getItem_heap (nest_room hu) (nkey_of I.hok eb) dd hp ?_
  rw [hp2]
  exact h w' _ (I.tok _) rw'
theorem nd_notIn {Q : Value → Shared → Prop} (hu : A.units + 2 < cLine) (I : Inv X pins σ H s) (e : NdAt X.prog X.w H a kvs) (eb : NKAt H k b) (h : ∀ s', Inv X pins σ H s' → Q (.bool (!(valV kvs k).isSome)) s') :
    wpAny (model X.prog X.w) A (compareOp .NotIn (.ref b) (.ref a)) Q E s := by
  obtain ⟨z, hd, xs, rel, _, dd⟩ := nd_rd I.hok e
  refine wpAny_notIn_heap (nest_room hu) (nkey_of I.hok eb) hd dd ?_
  have q := (rel.val k).isSome_eq
  rw [Option.isSome_map] at q
  rw [← q]
  exact h _ (I.tok _)
/-- d[k] = v, k not yet there -/
theorem nd_setNew {Q : Unit → Shared → Prop} (hu : A.units + 2 < cLine) (I : Inv X pins σ H s) (e : NdAt X.prog X.w H a kvs) (eb : NKAt H k b) (l : valV kvs k = none) (hl : kvs.length < sizeLine) (rv : RelV v r)
    (h : ∀ H' s', (∀ c, c ≠ a → H' c = H c) → NdAt X.prog X.w H' a (kvs ++ [(k, v)]) → Inv X pins σ H' s' → Q () s') : wpAny (model X.prog X.w) A (setItem (.ref a) (.ref b) r) Q E s := by
  obtain ⟨z, hd, xs, rel, ha, dd⟩ := nd_rd I.hok e
  have hz : xs.length ≤ sizeLine := by rw [← Paired.length rel]; exact z
  refine wpAny_setItem_heap (hsz := hz) (nest_room hu) (nkey_of I.hok eb) dd fun h' dd' hs => ?_
  obtain ⟨q, hq⟩ : ∃ q, h'.get? a = some q := let ⟨q, _, _, hq, _⟩ := dd'; ⟨q, hq⟩
  have ot : ∀ c, c ≠ a → upd H a (NdO X.prog X.w a (storedH xs k b r)) c = H c := fun c hc => upd_ne hc
  refine h (upd H a (NdO X.prog X.w a (storedH xs k b r))) _ ot ⟨by rw [List.length_append]; exact hl, hd, _, (rel.new l eb rv).keeps fun c ys ec => ?_, upd_same⟩ (d_write I (by rw [ha]; exact True.intro) hs ⟨q, hq⟩ (ndO_ok dd'))
  rw [upd_ne (fun e => by rw [e, ha] at ec; cases ec)]
  exact ec
end
/-- d[k] -/
def tNGet (P : Program) (w : World) (td ty : TE) : TE := fun σ H Q => td σ H fun x H1 => ty σ H1 fun y H2 => ∃ a b kvs k v, x = .ref a ∧ y = .ref b ∧ NdAt P w H2 a kvs ∧ NKAt H2 k b ∧ valV kvs k = some v ∧ Q v H2
/-- k not in d -/
def tNNotIn (P : Program) (w : World) (ty td : TE) : TE := fun σ H Q => ty σ H fun y H1 => td σ H1 fun x H2 => ∃ a b kvs k, x = .ref a ∧ y = .ref b ∧ NdAt P w H2 a kvs ∧ NKAt H2 k b ∧ Q (.bl (!(valV kvs k).isSome)) H2
/-- d[k] = v, k new -/
def sNPut (P : Program) (w : World) (td ty tv : TE) : TS := fun D σ H => tv σ H fun v H1 => td σ H1 fun x H2 => ty σ H2 fun y H3 => ∃ a b kvs k, x = .ref a ∧ y = .ref b ∧ NdAt P w H3 a kvs ∧ NKAt H3 k b ∧ valV kvs k = none ∧ kvs.length < sizeLine ∧
  ∀ H', (∀ c, c ≠ a → H' c = H3 c) → NdAt P w H' a (kvs ++ [(k, v)]) → D.nx σ H'
/-- {}, to be such a dict -/
def tNNew (P : Program) (w : World) : TE := fun _ H Q => ∀ p, H p = none → NdAt P w (upd H p (NdO P w p [])) p [] → Q (.ref p) (upd H p (NdO P w p []))
section
variable {X : Cx} {o i e value : Expr} {pos pos' tpos : Pos} {td ty tv : TE}
theorem pe_dnewN : PE X (.Dict [] [] pos) (tNNew X.prog X.w) := ⟨fun pins s σ H Q I h => by
  have hn : (s.heap.objs.size == sysModules) = false := beq_eq_false_iff_ne.mpr (Ne.symm (Nat.ne_of_lt I.big))
  have h0 := I.hok.fresh (Nat.le_refl s.heap.objs.size)
  refine wpAny_Dict_empty ⟨.ref s.heap.objs.size, _, I.laid (a := s.heap.objs.size) (o := NdO X.prog X.w s.heap.objs.size []) (t' := s.toks) (fun _ _ q => Heap.get?_push_of_some _ q) (Nat.le_refl _) (ndO_ok ⟨_, #[], 0, Heap.get?_push_size _ rfl, ⟨rfl, rfl, rfl⟩, rfl, rfl, (fun x hx => nomatch hx), List.nodup_nil⟩), rfl, h _ h0 ⟨Nat.zero_le _, hn, [], .nil, upd_same⟩⟩⟩
theorem nd_typeIs {pins : List (Addr × Obj)} {σ : St} {H : Hp} {s : Shared} {a : Addr} {kvs : List (NKey × V)} (I : Inv X pins σ H s) (g : NdAt X.prog X.w H a kvs) : s.TypeIs (.ref a) "dict" := by
  obtain ⟨_, _, xs, _, _, dd⟩ := nd_rd I.hok g
  exact dd.typeIs
theorem pe_nget (hu : X.A.units + 2 < cLine) (ho : PE X o td) (hi : PE X i ty) (hs : NoSl i) : PE X (.Subscript o i pos) (tNGet X.prog X.w td ty) := by
  refine ⟨fun pins s σ H Q I h => ?_⟩
  refine subD_of PySem.F.slot_dict_getitem.lookup hs (thn (ho.run pins s σ H _ I h) fun u s1 ⟨x, H1, I1, rx, q1⟩ => thn (hi.run pins s1 σ H1 _ I1 q1) fun iv s2 ⟨y, H2, I2, ry, a, b, kvs, k, v, ex, ey, g, gk, l, q2⟩ => ?_)
  subst ex ey
  obtain rfl : u = Value.ref a := rx
  obtain rfl : iv = Value.ref b := ry
  exact ⟨nd_typeIs I2 g, nd_getItem hu I2 g gk l fun w' s3 I3 rw' => ⟨v, H2, I3, rw', q2⟩⟩
theorem pc_nnotin (hu : X.A.units + 2 < cLine) (hi : PE X i ty) (ho : PE X o td) : PC X .NotIn i o (tNNotIn X.prog X.w ty td) := by
  refine ⟨fun pins s σ H Q I h => ?_⟩
  refine thn (hi.run pins s σ H _ I h) fun iv s1 ⟨y, H1, I1, ry, q1⟩ => thn (ho.run pins s1 σ H1 _ I1 q1) fun u s2 ⟨x, H2, I2, rx, a, b, kvs, k, ex, ey, g, gk, q2⟩ => ?_
  subst ex ey
  obtain rfl : u = Value.ref a := rx
  obtain rfl : iv = Value.ref b := ry
  exact nd_notIn hu I2 g gk fun s3 I3 => ⟨.bl (!(valV kvs k).isSome), H2, I3, rfl, q2⟩
theorem ps_nput (hu : X.A.units + 2 < cLine) (ho : PE X o td) (hi : PE X i ty) (hv : PE X value tv) (hs : swapsWith value (some (.Subscript o i pos')) pos.line X.env = pure false) :
    PS X (.Assign [.Subscript o i pos'] value pos) (sNPut X.prog X.w td ty tv) := by
  refine ⟨fun pins s σ H D I h => ?_⟩
  refine wpAny_Assign_Subscript (thn (hv.run pins s σ H _ I h) fun r s1 ⟨v, H1, I1, rv, q1⟩ => thn (ho.run pins s1 σ H1 _ I1 q1) fun u s2 ⟨x, H2, I2, rx, q2⟩ => thn (hi.run pins s2 σ H2 _ I2 q2) fun iv s3 ⟨y, H3, I3, ry, a, b, kvs, k, ex, ey, g, gk, l, hl, q3⟩ => ?_) hs
  subst ex ey
  obtain rfl : u = Value.ref a := rx
  obtain rfl : iv = Value.ref b := ry
  exact nd_setNew hu I3 g gk l hl rv fun H' s4 ot g' I4 => ⟨σ, H', I4, q3 H' ot g'⟩
end
end L2
end
section
set_option Elab.async false
set_option linter.all false
set_option maxRecDepth 100000
set_option maxHeartbeats 2000000
namespace Sh
open PySem PySem.Spec PyProof.Rows L2
open C8 (pss_cut tCut)
open Evl (ixN_nat)
theorem hu2_of {A : Around} {k : Nat} (hr : Room k A) : A.units + 2 < cLine := Nat.lt_of_le_of_lt (Nat.add_le_add_left (by decide : 2 ≤ 64) _) hr.units
abbrev FN : Type := Key × List Nat
def fkey (n : FN) : NKey := (n.1, n.2.map fun i => .inl ((i : Nat) : Int))
def fk : Nat → List FN → List (NKey × V)
  | _, [] => []
  | i, n :: r => (fkey n, .int (i : Nat)) :: fk (i + 1) r
theorem fk_snoc : ∀ (i : Nat) (ns : List FN) (n : FN), fk i (ns ++ [n]) = fk i ns ++ [(fkey n, .int ((i + ns.length : Nat) : Int))]
  | i, [], n => rfl
  | i, m :: r, n => by
    show (fkey m, V.int (i : Nat)) :: fk (i + 1) (r ++ [n]) = _
    rw [fk_snoc (i + 1) r n, show i + 1 + r.length = i + (m :: r).length by rw [List.length_cons]; omega]
    rfl
theorem fk_len : ∀ (i : Nat) (ns : List FN), (fk i ns).length = ns.length
  | _, [] => rfl
  | i, n :: r => by show (fk (i + 1) r).length + 1 = _; rw [fk_len (i + 1) r]; rfl
theorem inl_inj : ∀ {l m : List Nat}, (l.map fun i => (.inl ((i : Nat) : Int) : Key)) = m.map (fun i => .inl ((i : Nat) : Int)) → l = m
  | [], [], _ => rfl
  | [], _ :: _, h => by cases h
  | _ :: _, [], h => by cases h
  | x :: r, y :: t, h => by
    rw [List.map_cons, List.map_cons] at h
    injection h with h1 h2
    injection h1 with h1
    rw [inl_inj h2, show x = y by omega]
theorem fkey_inj {a b : FN} (h : fkey a = fkey b) : a = b := by
  obtain ⟨k, l⟩ := a
  obtain ⟨k', l'⟩ := b
  unfold fkey at h
  obtain ⟨h1, h2⟩ := Prod.mk.inj h
  have e1 : k = k' := h1
  have e2 : l = l' := inl_inj h2
  rw [e1, e2]
/-- where a node stands -/
def fidx : List FN → FN → Option Nat
  | [], _ => none
  | m :: r, n => if fkey m = fkey n then some 0 else (fidx r n).map (· + 1)
theorem fidx_some : ∀ {ns : List FN} {n : FN} {i : Nat}, fidx ns n = some i → ns[i]? = some n
  | [], _, _, h => by cases h
  | m :: r, n, i, h => by
    unfold fidx at h
    by_cases e : fkey m = fkey n
    · rw [if_pos e] at h
      cases h
      rw [fkey_inj e]
      rfl
    · rw [if_neg e] at h
      obtain ⟨j, hj, rfl⟩ := Option.map_eq_some_iff.mp h
      rw [List.getElem?_cons_succ]
      exact fidx_some hj
theorem fidx_none : ∀ {ns : List FN} {n : FN}, fidx ns n = none → n ∉ ns
  | [], _, _ => List.not_mem_nil
  | m :: r, n, h => by
    unfold fidx at h
    by_cases e : fkey m = fkey n
    · rw [if_pos e] at h
      cases h
    · rw [if_neg e, Option.map_eq_none_iff] at h
      intro q
      rcases List.mem_cons.mp q with q | q
      · exact e (by rw [q])
      · exact fidx_none h q
theorem fidx_new : ∀ {ns : List FN} {n : FN}, fidx ns n = none → fidx (ns ++ [n]) n = some ns.length
  | [], n, _ => by show (if fkey n = fkey n then some 0 else _) = _; rw [if_pos rfl]; rfl
  | m :: r, n, h => by
    unfold fidx at h
    by_cases e : fkey m = fkey n
    · rw [if_pos e] at h
      cases h
    · rw [if_neg e, Option.map_eq_none_iff] at h
      show (if fkey m = fkey n then some 0 else (fidx (r ++ [n]) n).map (· + 1)) = _
      rw [if_neg e, fidx_new h]
      rfl
theorem fk_val : ∀ (i : Nat) (ns : List FN) (n : FN), valV (fk i ns) (fkey n) = (fidx ns n).map fun j => V.int ((i + j : Nat) : Int)
  | _, [], n => rfl
  | i, m :: r, n => by
    show valV ((fkey m, V.int (i : Nat)) :: fk (i + 1) r) (fkey n) = (if fkey m = fkey n then some 0 else (fidx r n).map (· + 1)).map _
    by_cases e : fkey m = fkey n
    · rw [if_pos e]
      exact valV_pos e
    · rw [if_neg e, valV_neg e, fk_val (i + 1) r n]
      cases fidx r n with
      | none => rfl
      | some j =>
        show some (V.int ((i + 1 + j : Nat) : Int)) = some (V.int ((i + (j + 1) : Nat) : Int))
        rw [show i + 1 + j = i + (j + 1) by omega]
def nI (cs : List Nat) : List V := cs.map fun i => V.int ((i : Nat) : Int)
theorem nI_key (cs : List Nat) : nI cs = (cs.map fun i => (.inl ((i : Nat) : Int) : Key)).map kV := by
  unfold nI
  rw [List.map_map]
  rfl
structure FA where
  d : Addr
  l : Addr
  b : Addr
  z : Addr
  c : Addr
def FA.apart (F : FA) : Prop := F.l ≠ F.b ∧ F.l ≠ F.z ∧ F.l ≠ F.c ∧ F.b ≠ F.z ∧ F.b ≠ F.c ∧ F.z ≠ F.c
def forF (F : FA) : List (Str × V) := [("numbers", .ref F.d), ("labels", .ref F.l), ("below", .ref F.b), ("sizes", .ref F.z), ("closed", .ref F.c)]
def BlwAt (H : Hp) (bs : List Addr) (ns : List FN) : Prop := bs.length = ns.length ∧ ∀ (i : Nat) (b : Addr) (n : FN), bs[i]? = some b → ns[i]? = some n → H b = some (.tup (nI n.2))
/-- the forest at f -/
structure ForAt (P : Program) (w : World) (CF : Addr) (H : Hp) (f : Addr) (F : FA) (ns : List FN) (zs : List Nat) (cs : List Bool) : Prop where
  ap : F.apart
  o : ∃ dx, H f = some (.ins CF dx (forF F))
  d : NdAt P w H F.d (fk 0 ns)
  l : H F.l = some (.lst (ns.map fun n => kV n.1))
  b : ∃ bs, H F.b = some (.lst (bs.map V.ref)) ∧ BlwAt H bs ns
  z : H F.z = some (.lst (nI zs))
  c : H F.c = some (.lst (cs.map V.bl))
  lz : zs.length = ns.length
  lc : cs.length = ns.length
def isS : Key → Bool
  | .inl _ => false
  | .inr _ => true
def szN (zs : List Nat) (n : FN) : Nat := 1 + (n.2.map fun c => zs.getD c 0).sum
def clN (cs : List Bool) (n : FN) : Bool := isS n.1 && n.2.all fun c => cs.getD c false
/-- all but the forest's own five -/
def FFr (F : FA) (H H' : Hp) : Prop := ∀ x o, H x = some o → x ≠ F.d → x ≠ F.l → x ≠ F.b → x ≠ F.z → x ≠ F.c → H' x = some o
structure ForT (K : PySem.W.Frag) (C : Addr) : Prop where
  cl : Cls K C
  nN : NoAttr K C "numbers"
  nL : NoAttr K C "labels"
  nB : NoAttr K C "below"
  nS : NoAttr K C "sizes"
  nC : NoAttr K C "closed"
theorem lk_num (F : FA) : (forF F).lookup ("numbers" : Str) = some (.ref F.d) := by simp [forF, List.lookup]
theorem lk_lab (F : FA) : (forF F).lookup ("labels" : Str) = some (.ref F.l) := by
  have h1 : (("labels" : Str) == "numbers") = false := by decide +kernel
  simp [forF, List.lookup, h1]
theorem lk_bel (F : FA) : (forF F).lookup ("below" : Str) = some (.ref F.b) := by
  have h1 : (("below" : Str) == "numbers") = false := by decide +kernel
  have h2 : (("below" : Str) == "labels") = false := by decide +kernel
  simp [forF, List.lookup, h1, h2]
theorem lk_siz (F : FA) : (forF F).lookup ("sizes" : Str) = some (.ref F.z) := by
  have h1 : (("sizes" : Str) == "numbers") = false := by decide +kernel
  have h2 : (("sizes" : Str) == "labels") = false := by decide +kernel
  have h3 : (("sizes" : Str) == "below") = false := by decide +kernel
  simp [forF, List.lookup, h1, h2, h3]
theorem lk_clo (F : FA) : (forF F).lookup ("closed" : Str) = some (.ref F.c) := by
  have h1 : (("closed" : Str) == "numbers") = false := by decide +kernel
  have h2 : (("closed" : Str) == "labels") = false := by decide +kernel
  have h3 : (("closed" : Str) == "below") = false := by decide +kernel
  have h4 : (("closed" : Str) == "sizes") = false := by decide +kernel
  simp [forF, List.lookup, h1, h2, h3, h4]
theorem nI_sum (zs : List Nat) (cs : List Nat) : (cs.map fun c => ((zs.getD c 0 : Nat) : Int)).sum = (((cs.map fun c => zs.getD c 0).sum : Nat) : Int) := by
  induction cs with
  | nil => rfl
  | cons c r ih =>
    rw [List.map_cons, List.sum_cons, ih, List.map_cons, List.sum_cons]
    omega
def spNode (P : Program) (w : World) (CF : Addr) : Sp := fun vs H Q _ => ∃ (f t : Addr) (F : FA) (n : FN) (ns : List FN) (zs : List Nat) (cs : List Bool), vs = [.ref f, kV n.1, .ref t] ∧ ForAt P w CF H f F ns zs cs ∧ H t = some (.tup (nI n.2)) ∧ (∀ c ∈ n.2, c < ns.length) ∧ n.2.length ≤ 1000 ∧ ns.length ≤ 5000000 ∧
  ∀ H', FFr F H H' → (∀ i, fidx ns n = some i → ForAt P w CF H' f F ns zs cs → Q (.int (i : Nat)) H') ∧ (fidx ns n = none → ForAt P w CF H' f F (ns ++ [n]) (zs ++ [szN zs n]) (cs ++ [clN cs n]) → Q (.int (ns.length : Nat)) H')
abbrev N_Forest_node_for : List Str := ["self", "label", "below", "key", "branch"]
theorem sc_Forest_node_for : FnScope N_Forest_node_for ["self", "label", "below"] (defScope s_Forest_node_for) := ⟨rfl, rfl, rfl, by decide +kernel, rfl, by decide +kernel, by decide +kernel⟩
section
variable {P : Program} {w : World} {K : PySem.W.Frag} {mg : Str → Option Value} {base : Heap} {CF : Addr}
theorem body_node (T : Bl mg) (b_sum : mg "sum" = none) (B : ForT K CF) {f0 : Addr} {cdv : Value} {A' : Around} {outer : List Env} {s' : Shared} {H : Hp} {vs : List V} {Q : VK} {E : XK} (hr : Room 1 (A'.deeper (envOfC "Forest.node_for" (defScope s_Forest_node_for) s'.heap.objs.size f0 cdv))) (h : spNode P w CF vs H Q E) :
    ∃ t, PSs (cxOf CX0 P w K mg base N_Forest_node_for "Forest.node_for" (defScope s_Forest_node_for) f0 cdv A' outer s' H E) (defBody s_Forest_node_for) t ∧ t { nx := fun _ H' => Q .non H', rt := Q } (start N_Forest_node_for vs) H := by
  obtain ⟨f, t, F, n, ns, zs, cs, rfl, O, ht, hc, l1, l5, k⟩ := h
  have hu := hu_of hr
  have hu2 := hu2_of hr
  obtain ⟨dx, ho⟩ := O.o
  obtain ⟨bs, hbs, hbl⟩ := O.b
  have hmx : ∀ xs, ¬ (HO.lst xs = .ins CF dx (forF F)) := fun xs e => nomatch e
  refine ⟨_, (pss_cons (ps_set (i := 3) sc_Forest_node_for.nd rfl (Or.inl rfl) (pe_tup (pa_cons (pv 1) (pa_cons (pv 2) pa_nil))))
    (pss_cut (ps_if (pt_cmp (pc_nnotin hu2 (pv 3) (pe_fld (pv 0) rfl)))
      (pss_cons (ps_nput hu2 (pe_fld (pv 0) rfl) (pv 3) (pe_callB call_len_seq (by rfl) T.b_len boot_len (pa_cons (pe_fld (pv 0) rfl) pa_nil)) rfl)
      (pss_cons (ps_expr (pe_bm PySem.F.plainAttrs_list PySem.F.slot_list_append PySem.F.type_list_append mt_append (pe_fld (pv 0) rfl) (pa_cons (pv 1) pa_nil)))
      (pss_cons (ps_expr (pe_bm PySem.F.plainAttrs_list PySem.F.slot_list_append PySem.F.type_list_append mt_append (pe_fld (pv 0) rfl) (pa_cons (pv 2) pa_nil)))
      (pss_cons (ps_expr (pe_bm PySem.F.plainAttrs_list PySem.F.slot_list_append PySem.F.type_list_append mt_append (pe_fld (pv 0) rfl) (pa_cons (pe_op op_add pe_int (pe_callB (cr_sum rfl) (by rfl) b_sum (by decide +kernel) (pa_cons (pe_lc (own := [("branch", 4)]) (g := (gName 4)) (tt := tYes) rfl sc_Forest_node_for.nd (pi_tup (pv 2)) (blkOk_by (N := N_Forest_node_for) (sc := defScope s_Forest_node_for) (by decide +kernel)) (fun _ _ _ _ _ => (pg_name (i := 4) sc_Forest_node_for.nd rfl (Or.inl rfl))) (fun _ _ _ _ _ => pts_nil) (fun _ _ _ _ _ => (pe_ix (show IxR _ (rIxL K) from ix_list) (show PE _ _ (tFld K _ _) from pe_fld (pv 0) rfl) (pv 4) (fun _ _ => rfl)))) pa_nil))) pa_nil)))
      (pss_one (ps_expr (pe_bm PySem.F.plainAttrs_list PySem.F.slot_list_append PySem.F.type_list_append mt_append (pe_fld (pv 0) rfl) (pa_cons (pe_and (pe_callB call_isi (by rfl) T.b_isinstance (by decide +kernel) (pa_cons (pv 1) (pa_cons (pe_bltn (v := .ty "str") (by rfl) T.b_str boot_str rfl) pa_nil))) (pe_one (pe_callB (cr_all rfl) (by rfl) T.b_all (by decide +kernel) (pa_cons (pe_lc (own := [("branch", 4)]) (g := (gName 4)) (tt := tYes) rfl sc_Forest_node_for.nd (pi_tup (pv 2)) (blkOk_by (N := N_Forest_node_for) (sc := defScope s_Forest_node_for) (by decide +kernel)) (fun _ _ _ _ _ => (pg_name (i := 4) sc_Forest_node_for.nd rfl (Or.inl rfl))) (fun _ _ _ _ _ => pts_nil) (fun _ _ _ _ _ => (pe_ix (show IxR _ (rIxL K) from ix_list) (show PE _ _ (tFld K _ _) from pe_fld (pv 0) rfl) (pv 4) (fun _ _ => rfl)))) pa_nil)))) pa_nil))))))))
      pss_nil)
    (pss_one (ps_ret (pe_nget hu2 (pe_fld (pv 0) rfl) (pv 3) (fun _ _ => rfl)))))), ?_⟩
  refine ⟨_, rfl, _, rfl, le_line (show 2 ≤ 10000000 by decide), fun p hp => ?_⟩
  have s1 : Same H (upd H p (.tup [kV n.1, .ref t])) := (Same.refl H).upd_new hp
  have hk1 : NKAt (upd H p (.tup [kV n.1, .ref t])) (fkey n) p := ⟨t, upd_same, by rw [s1 _ _ ht, nI_key]; rfl⟩
  have nd1 : NdAt P w (upd H p (.tup [kV n.1, .ref t])) F.d (fk 0 ns) := by
    obtain ⟨_, _, xs, _, hx⟩ := id O.d
    exact O.d.keeps (fun b ys e => s1 _ _ e) (by rw [s1 _ _ hx, hx])
  generalize upd H p (.tup [kV n.1, .ref t]) = H1 at s1 hk1 nd1
  have ho1 := s1 _ _ ho
  refine ⟨fun σ H' => σ = [some (.ref f), some (kV n.1), some (.ref t), some (.ref p), none] ∧ FFr F H H' ∧ NKAt H' (fkey n) p ∧ ((∃ i, fidx ns n = some i ∧ ForAt P w CF H' f F ns zs cs) ∨ (fidx ns n = none ∧ ForAt P w CF H' f F (ns ++ [n]) (zs ++ [szN zs n]) (cs ++ [clN cs n]))), ?_, ?_⟩
  · refine ⟨_, rfl, _, rfl, f, CF, dx, _, _, rfl, ho1, B.cl, B.nN, lk_num F, F.d, p, _, _, rfl, rfl, nd1, hk1, _, rfl, ?_⟩
    rw [fk_val]
    cases hin : fidx ns n with
    | some j =>
      exact ifn (by simp) ⟨rfl, fun x o h _ _ _ _ _ => s1 _ _ h, hk1, .inl ⟨j, rfl, O.ap, ⟨dx, ho1⟩, nd1, s1 _ _ O.l, ⟨bs, s1 _ _ hbs, hbl.1, fun i b m h1 h2 => s1 _ _ (hbl.2 i b m h1 h2)⟩, s1 _ _ O.z, s1 _ _ O.c, O.lz, O.lc⟩⟩
    | none =>
      refine ifp rfl ?_
      have ned : ∀ {x : Addr} {o : HO}, H1 x = some o → (∀ φ, o ≠ .ext φ) → x ≠ F.d := fun {x o} h hn e => by
        obtain ⟨_, _, xs, _, hx⟩ := id nd1
        rw [e, hx] at h
        exact hn _ (Option.some.inj h).symm
      have hl1 := s1 _ _ O.l
      refine ⟨_, rfl, f, CF, dx, _, _, rfl, ho1, B.cl, B.nL, lk_lab F, F.l, _, rfl, .inl (SqL.of hl1), _, rfl, f, CF, dx, _, _, rfl, ho1, B.cl, B.nN, lk_num F, _, rfl, F.d, p, _, _, rfl, rfl, nd1, hk1, by rw [fk_val, hin]; rfl, by rw [fk_len]; exact lt_line (by omega), fun H2 ot nd2 => ?_⟩
      have nd2 : NdAt P w H2 F.d (fk 0 (ns ++ [n])) := by
        rw [fk_snoc, Nat.zero_add]
        rw [List.length_map] at nd2
        exact nd2
      have k12 : ∀ {x : Addr} {o : HO}, H1 x = some o → (∀ φ, o ≠ .ext φ) → H2 x = some o := fun {x o} h hn => by rw [ot x (ned h hn)]; exact h
      have tk2 : TK H H2 := fun b ys e => k12 (s1 _ _ e) (fun _ e => nomatch e)
      have ho2 := k12 ho1 (fun _ e => nomatch e)
      have hl2 := k12 hl1 (fun _ e => nomatch e)
      have hb2 := k12 (s1 _ _ hbs) (fun _ e => nomatch e)
      have hz2 := k12 (s1 _ _ O.z) (fun _ e => nomatch e)
      have hc2 := k12 (s1 _ _ O.c) (fun _ e => nomatch e)
      have ht2 := tk2 _ _ ht
      have hk2 : NKAt H2 (fkey n) p := hk1.keeps fun b ys e => k12 e (fun _ e => nomatch e)
      have fr2 : FFr F H H2 := fun x o h hd _ _ _ _ => by rw [ot x hd]; exact s1 _ _ h
      have hdl : F.d ≠ F.l := fun e => ned hl1 (fun _ e => nomatch e) e.symm
      have hdb : F.d ≠ F.b := fun e => ned (s1 _ _ hbs) (fun _ e => nomatch e) e.symm
      have hdz : F.d ≠ F.z := fun e => ned (s1 _ _ O.z) (fun _ e => nomatch e) e.symm
      have hdc : F.d ≠ F.c := fun e => ned (s1 _ _ O.c) (fun _ e => nomatch e) e.symm
      have hfl : f ≠ F.l := ne_of ho O.l (fun e => nomatch e)
      have hfb : f ≠ F.b := ne_of ho hbs (fun e => nomatch e)
      have hfz : f ≠ F.z := ne_of ho O.z (fun e => nomatch e)
      have hfc : f ≠ F.c := ne_of ho O.c (fun e => nomatch e)
      obtain ⟨a1, a2, a3, a4, a5, a6⟩ := O.ap
      clear hl1 ot k12 nd1
      refine ⟨_, rfl, f, CF, dx, _, _, rfl, ho2, B.cl, B.nL, lk_lab F, .inl ⟨rfl, _, SqL.of hl2⟩, _, rfl, F.l, _, _, rfl, rfl, hl2, lt_line (by rw [List.length_map]; omega), ?_⟩
      have tk3 := TK.lst (o := .lst ((ns.map fun n => kV n.1) ++ [kV n.1])) hl2
      have ho3 : (upd H2 F.l (.lst ((ns.map fun n => kV n.1) ++ [kV n.1]))) f = _ := (upd_ne hfl).trans ho2
      have hb3 : (upd H2 F.l (.lst ((ns.map fun n => kV n.1) ++ [kV n.1]))) F.b = _ := (upd_ne (Ne.symm a1)).trans hb2
      have hz3 : (upd H2 F.l (.lst ((ns.map fun n => kV n.1) ++ [kV n.1]))) F.z = _ := (upd_ne (Ne.symm a2)).trans hz2
      have hc3 : (upd H2 F.l (.lst ((ns.map fun n => kV n.1) ++ [kV n.1]))) F.c = _ := (upd_ne (Ne.symm a3)).trans hc2
      have hl3 : (upd H2 F.l (.lst ((ns.map fun n => kV n.1) ++ [kV n.1]))) F.l = some (.lst ((ns ++ [n]).map fun n => kV n.1)) := by rw [upd_same, List.map_append]; rfl
      have nd3 := nd2.keeps tk3 (upd_ne hdl)
      have hk3 := hk2.keeps tk3
      have ht3 := tk3 _ _ ht2
      have fr3 : FFr F H (upd H2 F.l (.lst ((ns.map fun n => kV n.1) ++ [kV n.1]))) := fun x o h h1 h2 h3 h4 h5 => by rw [upd_ne h2]; exact fr2 x o h h1 h2 h3 h4 h5
      have tk03 : TK H (upd H2 F.l (.lst ((ns.map fun n => kV n.1) ++ [kV n.1]))) := fun b ys e => tk3 _ _ (tk2 _ _ e)
      generalize upd H2 F.l (.lst ((ns.map fun n => kV n.1) ++ [kV n.1])) = H3 at ho3 hb3 hz3 hc3 hl3 nd3 hk3 ht3 fr3 tk03
      refine ⟨_, rfl, f, CF, dx, _, _, rfl, ho3, B.cl, B.nB, lk_bel F, .inl ⟨rfl, _, SqL.of hb3⟩, _, rfl, F.b, _, _, rfl, rfl, hb3, lt_line (by rw [List.length_map, hbl.1]; omega), ?_⟩
      have tk4 := TK.lst (o := .lst (bs.map V.ref ++ [V.ref t])) hb3
      have ho4 : (upd H3 F.b (.lst (bs.map V.ref ++ [V.ref t]))) f = _ := (upd_ne hfb).trans ho3
      have hl4 : (upd H3 F.b (.lst (bs.map V.ref ++ [V.ref t]))) F.l = _ := (upd_ne a1).trans hl3
      have hz4 : (upd H3 F.b (.lst (bs.map V.ref ++ [V.ref t]))) F.z = _ := (upd_ne (Ne.symm a4)).trans hz3
      have hc4 : (upd H3 F.b (.lst (bs.map V.ref ++ [V.ref t]))) F.c = _ := (upd_ne (Ne.symm a5)).trans hc3
      have hb4 : (upd H3 F.b (.lst (bs.map V.ref ++ [V.ref t]))) F.b = some (.lst ((bs ++ [t]).map V.ref)) := by rw [upd_same, List.map_append]; rfl
      have nd4 := nd3.keeps tk4 (upd_ne hdb)
      have hk4 := hk3.keeps tk4
      have ht4 := tk4 _ _ ht3
      have fr4 : FFr F H (upd H3 F.b (.lst (bs.map V.ref ++ [V.ref t]))) := fun x o h h1 h2 h3 h4 h5 => by rw [upd_ne h3]; exact fr3 x o h h1 h2 h3 h4 h5
      have tk04 : TK H (upd H3 F.b (.lst (bs.map V.ref ++ [V.ref t]))) := fun b ys e => tk4 _ _ (tk03 _ _ e)
      generalize upd H3 F.b (.lst (bs.map V.ref ++ [V.ref t])) = H4 at ho4 hb4 hz4 hc4 hl4 nd4 hk4 ht4 fr4 tk04
      have ln : (nI n.2).length = n.2.length := List.length_map ..
      have szat : ∀ c, c < ns.length → (nI zs)[c]? = some (V.int ((zs.getD c 0 : Nat) : Int)) := fun c h => by
        have hz' : c < zs.length := by rw [O.lz]; exact h
        unfold nI
        rw [List.getElem?_map, List.getElem?_eq_getElem hz', List.getD_eq_getElem?_getD, List.getElem?_eq_getElem hz']
        rfl
      refine ⟨_, rfl, f, CF, dx, _, _, rfl, ho4, B.cl, B.nS, lk_siz F, .inl ⟨rfl, _, SqL.of hz4⟩, ?_⟩
      refine ⟨_, rfl, t, rfl, ⟨_, SqT.of ht4⟩, fun D hD => lc_it (walk_tup (xs := nI n.2)) (fun i H' => Same H4 H' ∧ H' D = some (.lst (((n.2.take i).map fun c => ((zs.getD c 0 : Nat) : Int)).map V.int)))
        ⟨(Same.refl H4).upd_new hD, upd_same⟩ (fun i H' _ ⟨q, _⟩ => SqT.of (q _ _ ht4)) ?_ ?_⟩
      · rintro i v H5 H6 hi ⟨s5, d5⟩ ⟨rfl, hv⟩
        have hi2 : i < n.2.length := by rw [ln] at hi; exact hi
        have hv2 : (n.2.map fun i => V.int ((i : Nat) : Int))[i]? = some v := hv
        rw [List.getElem?_map, List.getElem?_eq_getElem hi2] at hv2
        cases hv2
        refine ⟨rfl, _, rfl, f, CF, dx, _, _, rfl, s5 _ _ ho4, B.cl, B.nS, lk_siz F, _, rfl, F.z, _, _, _, rfl, rfl, SqL.of (s5 _ _ hz4), at_ofG (j := n.2[i]) rfl (szat _ (hc _ (List.getElem_mem hi2))), _, d5, ?_, s5.upd_own hD, ?_⟩
        · rw [List.length_map, List.length_map, List.length_take]
          exact lt_line (by omega)
        · rw [upd_same, ← take_snoc (List.getElem?_eq_getElem hi2), List.map_append, List.map_append]
          rfl
      rintro H5 ⟨s5, d5⟩
      rw [ln, List.take_length] at d5
      have ev : V.int (1 + (n.2.map fun c => ((zs.getD c 0 : Nat) : Int)).sum) = V.int ((szN zs n : Nat) : Int) := by
        rw [nI_sum]
        unfold szN
        rw [show (1 : Int) + (((n.2.map fun c => zs.getD c 0).sum : Nat) : Int) = ((1 + (n.2.map fun c => zs.getD c 0).sum : Nat) : Int) by omega]
      refine ⟨D, _, rfl, SqL.of d5, _, _, rfl, rfl, F.z, _, V.int ((szN zs n : Nat) : Int), rfl, by rw [← ev], s5 _ _ hz4, ?_, ?_⟩
      · unfold nI
        rw [List.length_map, O.lz]
        exact lt_line (by omega)
      have hz5 := s5 _ _ hz4
      have tk6 := TK.lst (o := .lst (nI zs ++ [V.int ((szN zs n : Nat) : Int)])) hz5
      have tk46 : TK H4 (upd H5 F.z (.lst (nI zs ++ [V.int ((szN zs n : Nat) : Int)]))) := fun b ys e => tk6 _ _ (s5 _ _ e)
      have ho6 : (upd H5 F.z (.lst (nI zs ++ [V.int ((szN zs n : Nat) : Int)]))) f = _ := (upd_ne hfz).trans (s5 _ _ ho4)
      have hl6 : (upd H5 F.z (.lst (nI zs ++ [V.int ((szN zs n : Nat) : Int)]))) F.l = _ := (upd_ne a2).trans (s5 _ _ hl4)
      have hb6 : (upd H5 F.z (.lst (nI zs ++ [V.int ((szN zs n : Nat) : Int)]))) F.b = _ := (upd_ne a4).trans (s5 _ _ hb4)
      have hc6 : (upd H5 F.z (.lst (nI zs ++ [V.int ((szN zs n : Nat) : Int)]))) F.c = _ := (upd_ne (Ne.symm a6)).trans (s5 _ _ hc4)
      have hz6 : (upd H5 F.z (.lst (nI zs ++ [V.int ((szN zs n : Nat) : Int)]))) F.z = some (.lst (nI (zs ++ [szN zs n]))) := by rw [upd_same]; unfold nI; rw [List.map_append]; rfl
      have nd6 : NdAt P w (upd H5 F.z (.lst (nI zs ++ [V.int ((szN zs n : Nat) : Int)]))) F.d (fk 0 (ns ++ [n])) := nd4.keeps tk46 (by
        obtain ⟨_, _, xs, _, hx⟩ := id nd4
        rw [upd_ne hdz, s5 _ _ hx, hx])
      have hk6 := hk4.keeps tk46
      have ht6 := tk46 _ _ ht4
      have fr6 : FFr F H (upd H5 F.z (.lst (nI zs ++ [V.int ((szN zs n : Nat) : Int)]))) := fun x o h h1 h2 h3 h4 h5 => by rw [upd_ne h4]; exact s5 _ _ (fr4 x o h h1 h2 h3 h4 h5)
      have tk06 : TK H (upd H5 F.z (.lst (nI zs ++ [V.int ((szN zs n : Nat) : Int)]))) := fun b ys e => tk46 _ _ (tk04 _ _ e)
      generalize upd H5 F.z (.lst (nI zs ++ [V.int ((szN zs n : Nat) : Int)])) = H6 at ho6 hb6 hz6 hc6 hl6 nd6 hk6 ht6 fr6 tk06
      refine ⟨_, rfl, f, CF, dx, _, _, rfl, ho6, B.cl, B.nC, lk_clo F, .inl ⟨rfl, _, SqL.of hc6⟩, ?_⟩
      have len8 : (cs.map V.bl).length < sizeLine := by rw [List.length_map, O.lc]; exact lt_line (by omega)
      have fin : ∀ (H7 : Hp) (bb : Bool), Same H6 H7 → bb = clN cs n → FFr F H (upd H7 F.c (.lst (cs.map V.bl ++ [V.bl bb]))) ∧ NKAt (upd H7 F.c (.lst (cs.map V.bl ++ [V.bl bb]))) (fkey n) p ∧ ForAt P w CF (upd H7 F.c (.lst (cs.map V.bl ++ [V.bl bb]))) f F (ns ++ [n]) (zs ++ [szN zs n]) (cs ++ [clN cs n]) := fun H7 bb s7 eb => by
        subst eb
        have hc7 := s7 _ _ hc6
        have tk8 := TK.lst (o := .lst (cs.map V.bl ++ [V.bl (clN cs n)])) hc7
        have tk68 : TK H6 (upd H7 F.c (.lst (cs.map V.bl ++ [V.bl (clN cs n)]))) := fun b ys e => tk8 _ _ (s7 _ _ e)
        refine ⟨fun x o h h1 h2 h3 h4 h5 => by rw [upd_ne h5]; exact s7 _ _ (fr6 x o h h1 h2 h3 h4 h5), hk6.keeps tk68, O.ap, ⟨dx, (upd_ne hfc).trans (s7 _ _ ho6)⟩, nd6.keeps tk68 (by
          obtain ⟨_, _, xs, _, hx⟩ := id nd6
          rw [upd_ne hdc, s7 _ _ hx, hx]), (upd_ne a3).trans (s7 _ _ hl6), ⟨bs ++ [t], (upd_ne a5).trans (s7 _ _ hb6), by rw [List.length_append, List.length_append, hbl.1]; rfl, fun i b' m h1 h2 => ?_⟩, (upd_ne a6).trans (s7 _ _ hz6), by rw [upd_same, List.map_append]; rfl, by rw [List.length_append, List.length_append, O.lz]; rfl, by rw [List.length_append, List.length_append, O.lc]; rfl⟩
        by_cases hi : i < bs.length
        · rw [List.getElem?_append_left hi] at h1
          rw [List.getElem?_append_left (by rw [← hbl.1]; exact hi)] at h2
          exact tk68 _ _ (tk06 _ _ (hbl.2 i b' m h1 h2))
        · rw [List.getElem?_append_right (by omega)] at h1
          rw [List.getElem?_append_right (by rw [← hbl.1]; omega)] at h2
          rw [hbl.1] at h1
          cases hj : i - ns.length with
          | zero =>
            rw [hj] at h1 h2
            cases h1
            cases h2
            exact tk68 _ _ ht6
          | succ j =>
            rw [hj] at h1
            simp at h1
      obtain ⟨k1, ch⟩ := n
      cases k1 with
      | inl z =>
        refine ⟨_, rfl, _, _, _, _, false, rfl, .ty _, .base (.int _), rfl, _, rfl, ifn (by decide) ⟨F.c, _, _, rfl, rfl, hc6, len8, ?_⟩⟩
        obtain ⟨q1, q2, q3⟩ := fin H6 false (Same.refl H6) rfl
        exact ⟨rfl, q1, q2, .inr ⟨rfl, q3⟩⟩
      | inr z =>
        refine ⟨_, rfl, _, _, _, _, true, rfl, .ty _, .base (.str _), rfl, _, rfl, ifp rfl ?_⟩
        have clat : ∀ c, c < ns.length → (cs.map V.bl)[c]? = some (V.bl (cs.getD c false)) := fun c h => by
          have hc' : c < cs.length := by rw [O.lc]; exact h
          rw [List.getElem?_map, List.getElem?_eq_getElem hc', List.getD_eq_getElem?_getD, List.getElem?_eq_getElem hc']
          rfl
        refine ⟨_, rfl, t, rfl, ⟨_, SqT.of ht6⟩, fun D2 hD2 => lc_it (walk_tup (xs := nI ch)) (fun i H' => Same H6 H' ∧ H' D2 = some (.lst (((ch.take i).map fun c => cs.getD c false).map V.bl)))
          ⟨(Same.refl H6).upd_new hD2, upd_same⟩ (fun i H' _ ⟨q, _⟩ => SqT.of (q _ _ ht6)) ?_ ?_⟩
        · rintro i v H7 H8 hi ⟨s7, d7⟩ ⟨rfl, hv⟩
          have hi2 : i < ch.length := by rw [show (nI ch).length = ch.length from List.length_map ..] at hi; exact hi
          have hv2 : (ch.map fun i => V.int ((i : Nat) : Int))[i]? = some v := hv
          rw [List.getElem?_map, List.getElem?_eq_getElem hi2] at hv2
          cases hv2
          refine ⟨rfl, _, rfl, f, CF, dx, _, _, rfl, s7 _ _ ho6, B.cl, B.nC, lk_clo F, _, rfl, F.c, _, _, _, rfl, rfl, SqL.of (s7 _ _ hc6), at_ofG (j := ch[i]) rfl (clat _ (hc _ (List.getElem_mem hi2))), _, d7, ?_, s7.upd_own hD2, ?_⟩
          · have : ch.length ≤ 1000 := l1
            rw [List.length_map, List.length_map, List.length_take]
            exact lt_line (by omega)
          · rw [upd_same, ← take_snoc (List.getElem?_eq_getElem hi2), List.map_append, List.map_append]
            rfl
        rintro H7 ⟨s7, d7⟩
        rw [show (nI ch).length = ch.length from List.length_map .., List.take_length] at d7
        refine ⟨D2, _, rfl, SqL.of d7, F.c, _, _, rfl, rfl, s7 _ _ hc6, len8, ?_⟩
        have eb : ((ch.map fun c => cs.getD c false).all id) = clN cs (Sum.inr z, ch) := by
          unfold clN
          rw [List.all_map]
          rfl
        obtain ⟨q1, q2, q3⟩ := fin H7 _ s7 eb
        exact ⟨rfl, q1, q2, .inr ⟨rfl, q3⟩⟩
  · rintro σ H2 ⟨rfl, fr, hk2, ⟨i, hin, O2⟩ | ⟨hin, O2⟩⟩
    · obtain ⟨dx2, ho2⟩ := O2.o
      exact ⟨_, rfl, f, CF, dx2, _, _, rfl, ho2, B.cl, B.nN, lk_num F, _, rfl, F.d, p, _, _, _, rfl, rfl, O2.d, hk2, by rw [fk_val, hin, Option.map_some, Nat.zero_add], (k H2 fr).1 i hin O2⟩
    · obtain ⟨dx2, ho2⟩ := O2.o
      exact ⟨_, rfl, f, CF, dx2, _, _, rfl, ho2, B.cl, B.nN, lk_num F, _, rfl, F.d, p, _, _, _, rfl, rfl, O2.d, hk2, by rw [fk_val, fidx_new hin, Option.map_some, Nat.zero_add], (k H2 fr).2 hin O2⟩
end
end Sh
end
section
set_option Elab.async false
set_option linter.all false
set_option maxRecDepth 100000
set_option maxHeartbeats 2000000
namespace HT
open PySem PySem.Spec PyProof.Rows
section
variable {prog : Program} {w : World} {A : Around} {E : Value → Shared → Prop} {s : Shared}
theorem adjust_rev (n : Nat) : Builtin.Slice.sliceAdjust none none (-1) (n : Int) = ((n : Int) - 1, -1) := by
  first
  | rfl
  | simp [Builtin.Slice.sliceAdjust]
theorem places_rev (n : Nat) : Builtin.Slice.slicePlaces ((n : Int) - 1) (-1) (-1) = n := by
  unfold Builtin.Slice.slicePlaces
  have h1 : ¬ ((-1 : Int) > 0) := by decide
  simp only [h1, if_false]
  split <;> (first | omega | (rw [show (- -1 : Int) = 1 by decide, Int.ediv_one]; omega) | (simp; omega))
theorem fm_congr {α β : Type} {f g : α → Option β} : ∀ {l : List α}, (∀ x ∈ l, f x = g x) → l.filterMap f = l.filterMap g
  | [], _ => rfl
  | x :: r, h => by
    rw [List.filterMap_cons, List.filterMap_cons, h x List.mem_cons_self, fm_congr fun y hy => h y (List.mem_cons_of_mem _ hy)]
theorem pick_rev (xs : Array Value) : ((List.range xs.size).filterMap fun (m : Nat) => xs[((xs.size : Int) - 1 + (m : Int) * (-1)).toNat]?).toArray = xs.toList.reverse.toArray := by
  have e : ((List.range xs.size).filterMap fun (m : Nat) => xs[((xs.size : Int) - 1 + (m : Int) * (-1)).toNat]?) = ((List.range xs.size).map fun k => xs.size - 1 - k).filterMap (xs[·]?) := by
    rw [List.filterMap_map]
    refine fm_congr fun m hm => ?_
    have := List.mem_range.mp hm
    show xs[((xs.size : Int) - 1 + (m : Int) * (-1)).toNat]? = xs[xs.size - 1 - m]?
    rw [show ((xs.size : Int) - 1 + (m : Int) * (-1)).toNat = xs.size - 1 - m by omega]
  rw [e, PySem.W.krv_range, List.filterMap_reverse, PySem.W.krv_all]
theorem sliceApplied_rev {sl : Addr} {vl vu vs : Value} {n : Nat} {Q : Int × Int × Nat → Shared → Prop} (hs : s.heap.IsSliceOf sl vl vu vs) (pl : IsPart vl none) (pu : IsPart vu none) (ps : IsPart vs (some (-1)))
    (h : Q ((n : Int) - 1, -1, n) s) : wpAny (model prog w) A (Builtin.Slice.sliceApplied (.ref sl) (pure (n : Int))) Q E s := by
  obtain ⟨os, hos, hcs, hds⟩ := id hs
  unfold Builtin.Slice.sliceApplied Builtin.Slice.sliceFields
  refine wpAny_bind (wpAny_bind (wpAny_field hos hds (x := vl) rfl (wpAny_bind (wpAny_field hos hds (x := vu) rfl (wpAny_bind (wpAny_field hos hds (x := vs) rfl (wpAny_pure ?_)))))))
  refine wpAny_bind (slicePart_ ps ?_)
  show wpAny _ _ (if ((-1 : Int) == 0) = true then _ else _) _ _ s
  rw [if_neg (by decide)]
  refine wpAny_bind (slicePart_ pl (wpAny_bind (slicePart_ pu (wpAny_bind (wpAny_pure ?_)))))
  show wpAny _ _ (match Builtin.Slice.sliceAdjust none none (-1) (n : Int) with | (lo, hi) => pure (lo, (-1 : Int), Builtin.Slice.slicePlaces lo hi (-1))) _ _ s
  rw [adjust_rev n]
  show wpAny _ _ (pure ((n : Int) - 1, (-1 : Int), Builtin.Slice.slicePlaces ((n : Int) - 1) (-1) (-1))) _ _ s
  rw [places_rev]
  exact wpAny_pure h
theorem getItem_tuple_rev {t sl : Addr} {items : Array Value} {vl vu vs : Value} {Q : Value → Shared → Prop} (ht : IsTup s.heap t items) (hs : s.heap.IsSliceOf sl vl vu vs) (pl : IsPart vl none) (pu : IsPart vu none) (ps : IsPart vs (some (-1)))
    (h : Q (.ref s.heap.objs.size) { s with heap := s.heap.push { cls := .type "tuple", data := .seq items.toList.reverse.toArray } })
    (hsz : items.size ≤ sizeLine) : wpAny (model prog w) A (getItem (.ref t) (.ref sl)) Q E s := by
  have hok : sizeOk (.seq items.toList.reverse.toArray) := by
    show items.toList.reverse.toArray.size ≤ sizeLine
    rw [List.size_toArray, List.length_reverse, Array.length_toList]
    exact hsz
  obtain ⟨os, hos, hcs, hds⟩ := id hs
  have hTs : s.TypeIs (.ref sl) "slice" := ⟨os, hos, hcs⟩
  unfold getItem
  try with_reducible refine wpAny_holding ?_
  first | refine wpAny_bind (wpAny_pure ?_) | skip
  refine wpAny_bind (wpAny_sequenceKey ht.typeIs (by decide) ?_)
  refine wpAny_bind (wpAny_callSpecial?_slot (name := Str.ofString "__getitem__") ht.typeIs PyProof.Rows.slot_tuple_getitem
    (wpAny_call_entry PyProof.Rows.slot_tuple_getitem ht.typeIs entry_tuple_getitem ?_ (args_tuple_getitem _ _)))
  show wpAny _ _ (Builtin.Tuple.tupleItemsOf (.ref t) >>= _) _ _ s
  refine wpAny_bind (tupleItemsOf_ ht ?_)
  refine wpAny_bind (wpAny_typeOf hTs ?_)
  rw [if_pos (by decide)]
  refine wpAny_bind (sliceApplied_rev hs pl pu ps ?_)
  have hno : ¬ (((((items.size : Nat) : Int) - 1) == 0 && (-1 : Int) == 1 && items.size == items.size) = true) := by
    intro q
    rw [Bool.and_eq_true, Bool.and_eq_true] at q
    exact absurd (eq_of_beq q.1.2) (by decide)
  show wpAny _ _ (if ((((items.size : Nat) : Int) - 1) == 0 && (-1 : Int) == 1 && items.size == items.size) = true then _ else _) _ _ s
  rw [if_neg hno, pick_rev]
  first
    | exact wpAny_bind (m := Builtin.Tuple.tupleExact _) (wpAny_newObj_type (wpAny_pure ⟨_, rfl, wpAny_pure h⟩) hok)
    | exact wpAny_bind (m := Builtin.Tuple.tupleExact _) (wpAny_newObj_type (wpAny_bind (wpAny_pure (wpAny_pure ⟨_, rfl, wpAny_pure h⟩))) hok)
    | exact wpAny_bind (wpAny_bind (m := Builtin.Tuple.tupleExact _) (wpAny_newObj_type (wpAny_pure (wpAny_pure ⟨_, rfl, wpAny_pure h⟩)) hok))
    | exact wpAny_bind (wpAny_bind (m := Builtin.Tuple.tupleExact _) (wpAny_newObj_type (wpAny_pure ⟨_, rfl, wpAny_pure h⟩) hok))
end
end HT
namespace L2
open PySem PySem.Spec PyProof.Rows
def tRevT (K : PySem.W.Frag) (te : TE) : TE := fun σ H Q => te σ H fun x H1 => ∃ a xs, x = .ref a ∧ SqT K H1 a xs ∧ ∀ p, H1 p = none → Q (.ref p) (upd H1 p (.tup xs.reverse))
theorem pe_revT {X : Cx} {e : Expr} {te : TE} {k : Nat} {p1 p2 p3 pos : Pos} (he : PE X e te) : PE X (.Subscript e (.Slice none none (some (.UnaryOp .USub (.Constant (.int 1) k p1) p2)) p3) pos) (tRevT X.K te) := by
  refine ⟨fun pins s σ H Q I h => ?_⟩
  refine Subscript_ (thn (he.run pins s σ H _ I h) fun v s1 ⟨x, H1, I1, r1, q1⟩ => ?_)
  obtain ⟨a, xs, ex, hx, q⟩ := q1
  subst ex
  cases r1
  have hst : PO X (some (.UnaryOp .USub (.Constant (.int 1) k p1) p2)) (tPart (tUn (rU fun i => .int (-i)) (tC (.int 1)))) := po_some (pe_un un_neg pe_int)
  refine wpAny_Slice (thn (po_none.run pins s1 σ H1 (fun o H2 => o = none ∧ H2 = H1) I1 ⟨rfl, rfl⟩) fun vl s2 ⟨l, H2, I2, pl, el, e2⟩ => ?_)
  subst el e2
  refine thn (po_none.run pins s2 σ H2 (fun o H3 => o = none ∧ H3 = H2) I2 ⟨rfl, rfl⟩) fun vu s3 ⟨u, H3, I3, pu, eu, e3⟩ => ?_
  subst eu e3
  refine thn (hst.run pins s3 σ H3 (fun o H4 => o = some (-1) ∧ H4 = H3) I3 ⟨1, rfl, -1, rfl, rfl, rfl⟩) fun vs s4 ⟨o, H4, I4, ps, eo, e4⟩ => ?_
  subst eo e4
  have I5 : Inv X pins σ H4 { s4 with heap := s4.heap.push { cls := .type "slice", data := .fields #[vl, vu, vs] } } := I4.kept (t' := s4.toks) fun b ob q => Heap.get?_push_of_some _ q
  obtain ⟨its, r, ht, hz⟩ := I5.tuple hx
  have hlen := r.length
  show wpAny (model X.prog X.w) X.A (subscriptTail e (.Slice none none (some (.UnaryOp .USub (.Constant (.int 1) k p1) p2)) p3) (.ref a) (.ref s4.heap.objs.size)) (EP X pins σ Q) X.xe { s4 with heap := s4.heap.push { cls := .type "slice", data := .fields #[vl, vu, vs] } }
  refine tail_any (ops := [.ref a, .ref s4.heap.objs.size]) ht.typeIs (PyProof.Rows.slot_tuple_getitem.lookup) ?_ (by with_unfolding_all rfl)
  refine HT.getItem_tuple_rev ht (Heap.IsSliceOf.new _ vl vu vs) pl pu ps ?_ (by rw [List.size_toArray]; omega)
  refine ⟨.ref _, _, I5.laid (t' := s4.toks) (o := .tup xs.reverse) (fun b ob q => Heap.get?_push_of_some _ q) (Nat.le_refl _) ?_, rfl, q _ (I5.hok.fresh (Nat.le_refl _))⟩
  exact ⟨by rw [List.length_reverse]; exact hz, _, r.reverse, IsTup.new _ _⟩
end L2
end
section
set_option Elab.async false
set_option linter.all false
set_option maxRecDepth 100000
set_option maxHeartbeats 2000000
namespace Sh
open PySem PySem.Spec PyProof.Rows L2
open C8 (pss_cut tCut)
open Evl (ixN_nat)
structure FS where
  ns : List FN
  zs : List Nat
  cs : List Bool
def FS.add (S : FS) (n : FN) : Nat × FS := match fidx S.ns n with
  | some i => (i, S)
  | none => (S.ns.length, ⟨S.ns ++ [n], S.zs ++ [szN S.zs n], S.cs ++ [clN S.cs n]⟩)
theorem FS.add_some {S : FS} {n : FN} {i : Nat} (h : fidx S.ns n = some i) : S.add n = (i, S) := by unfold FS.add; rw [h]
theorem FS.add_none {S : FS} {n : FN} (h : fidx S.ns n = none) : S.add n = (S.ns.length, ⟨S.ns ++ [n], S.zs ++ [szN S.zs n], S.cs ++ [clN S.cs n]⟩) := by unfold FS.add; rw [h]
theorem FS.add_lt (S : FS) (n : FN) : (S.add n).1 < (S.add n).2.ns.length ∧ S.ns.length ≤ (S.add n).2.ns.length ∧ (S.add n).2.ns.length ≤ S.ns.length + 1 := by
  cases h : fidx S.ns n with
  | some i =>
    rw [FS.add_some h]
    exact ⟨lt_of_get (fidx_some h), Nat.le_refl _, Nat.le_succ _⟩
  | none =>
    rw [FS.add_none h]
    refine ⟨?_, ?_, ?_⟩ <;> simp
def wK (rows : List Row) : Key → Nat
  | .inr z => wR rows z
  | .inl _ => 0
abbrev ForS (P : Program) (w : World) (CF : Addr) (H : Hp) (f : Addr) (F : FA) (S : FS) : Prop := ForAt P w CF H f F S.ns S.zs S.cs
theorem FFr.trans {F : FA} {H H1 H2 : Hp} (x : FFr F H H1) (y : FFr F H1 H2) : FFr F H H2 := fun a o h h1 h2 h3 h4 h5 => y a o (x a o h h1 h2 h3 h4 h5) h1 h2 h3 h4 h5
theorem FFr.same {F : FA} {H H' : Hp} (s : Same H H') : FFr F H H' := fun a o h _ _ _ _ _ => s a o h
/-- what is neither a list nor such a dict stays -/
theorem FFr.get {P : Program} {w : World} {CF f : Addr} {F : FA} {ns : List FN} {zs : List Nat} {cs : List Bool} {H H' : Hp} (k : FFr F H H') (O : ForAt P w CF H f F ns zs cs) {x : Addr} {o : HO} (h : H x = some o) (n1 : ∀ ys, o ≠ .lst ys) (n2 : ∀ φ, o ≠ .ext φ) : H' x = some o := by
  obtain ⟨_, _, xs, _, hx⟩ := id O.d
  obtain ⟨bs, hbs, _⟩ := O.b
  refine k x o h (fun e => ?_) (fun e => ?_) (fun e => ?_) (fun e => ?_) (fun e => ?_)
  · rw [e, hx] at h
    exact n2 _ (Option.some.inj h).symm
  · rw [e, O.l] at h
    exact n1 _ (Option.some.inj h).symm
  · rw [e, hbs] at h
    exact n1 _ (Option.some.inj h).symm
  · rw [e, O.z] at h
    exact n1 _ (Option.some.inj h).symm
  · rw [e, O.c] at h
    exact n1 _ (Option.some.inj h).symm
theorem FFr.bed {P : Program} {w : World} {CF f C b : Addr} {F : FA} {ns : List FN} {zs : List Nat} {cs : List Bool} {H H' : Hp} {rows : List Row} (k : FFr F H H') (O : ForAt P w CF H f F ns zs cs) (B : BedAt C H b rows) : BedAt C H' b rows := by
  obtain ⟨dx, r, kk, ww, rk, ts, h1, h2, h3, h4, h5, h6⟩ := B
  have g : ∀ {x : Addr} {o : HO}, H x = some o → (∀ ys, o ≠ .lst ys) → (∀ φ, o ≠ .ext φ) → H' x = some o := fun h => k.get O h
  exact ⟨dx, r, kk, ww, rk, ts, g h1 (fun _ e => nomatch e) (fun _ e => nomatch e), g h2 (fun _ e => nomatch e) (fun _ e => nomatch e), ⟨h3.1, fun i t q a b => g (h3.2 i t q a b) (fun _ e => nomatch e) (fun _ e => nomatch e)⟩, g h4 (fun _ e => nomatch e) (fun _ e => nomatch e), g h5 (fun _ e => nomatch e) (fun _ e => nomatch e), g h6 (fun _ e => nomatch e) (fun _ e => nomatch e)⟩
theorem ForAt.same {P : Program} {w : World} {CF f : Addr} {F : FA} {ns : List FN} {zs : List Nat} {cs : List Bool} {H H' : Hp} (O : ForAt P w CF H f F ns zs cs) (s : Same H H') : ForAt P w CF H' f F ns zs cs := by
  obtain ⟨dx, ho⟩ := O.o
  obtain ⟨bs, hbs, hbl⟩ := O.b
  refine ⟨O.ap, ⟨dx, s _ _ ho⟩, O.d.keeps (fun b ys e => s _ _ e) ?_, s _ _ O.l, ⟨bs, s _ _ hbs, hbl.1, fun i b m h1 h2 => s _ _ (hbl.2 i b m h1 h2)⟩, s _ _ O.z, s _ _ O.c, O.lz, O.lc⟩
  obtain ⟨_, _, xs, _, hx⟩ := id O.d
  rw [s _ _ hx, hx]
/-- a list that stands apart from the forest is written -/
theorem ForAt.own {P : Program} {w : World} {CF f g : Addr} {F : FA} {ns : List FN} {zs : List Nat} {cs : List Bool} {H : Hp} {ys : List V} {o : HO} (O : ForAt P w CF H f F ns zs cs) (hg : H g = some (.lst ys)) (n2 : g ≠ F.l) (n3 : g ≠ F.b) (n4 : g ≠ F.z) (n5 : g ≠ F.c) : ForAt P w CF (upd H g o) f F ns zs cs := by
  obtain ⟨dx, ho⟩ := O.o
  obtain ⟨bs, hbs, hbl⟩ := O.b
  have tk : TK H (upd H g o) := TK.lst hg
  have nd : F.d ≠ g := fun e => by
    obtain ⟨_, _, xs, _, hx⟩ := id O.d
    rw [e, hg] at hx
    cases hx
  exact ⟨O.ap, ⟨dx, by rw [upd_ne (ne_of ho hg (fun e => nomatch e))]; exact ho⟩, O.d.keeps tk (upd_ne nd), by rw [upd_ne (Ne.symm n2)]; exact O.l, ⟨bs, by rw [upd_ne (Ne.symm n3)]; exact hbs, hbl.1, fun i b m h1 h2 => tk _ _ (hbl.2 i b m h1 h2)⟩, by rw [upd_ne (Ne.symm n4)]; exact O.z, by rw [upd_ne (Ne.symm n5)]; exact O.c, O.lz, O.lc⟩
theorem lk_node (F : FA) : (forF F).lookup ("node_for" : Str) = none := by
  have h1 : (("node_for" : Str) == "numbers") = false := by decide +kernel
  have h2 : (("node_for" : Str) == "labels") = false := by decide +kernel
  have h3 : (("node_for" : Str) == "below") = false := by decide +kernel
  have h4 : (("node_for" : Str) == "sizes") = false := by decide +kernel
  have h5 : (("node_for" : Str) == "closed") = false := by decide +kernel
  simp [forF, List.lookup, h1, h2, h3, h4, h5]
section
variable {P : Program} {w : World} {K : PySem.W.Frag} {mg : Str → Option Value} {base : Heap} {C CF : Addr}
end
end Sh
end
section
set_option Elab.async false
set_option linter.all false
set_option maxRecDepth 100000
set_option maxHeartbeats 2000000
namespace Sh
open PySem PySem.Spec PyProof.Rows L2
open C8 (pss_cut tCut)
open Evl (ixN_nat)
theorem f_ne : ¬ ("numbers" : Str) = "labels" ∧ ¬ ("numbers" : Str) = "below" ∧ ¬ ("numbers" : Str) = "sizes" ∧ ¬ ("numbers" : Str) = "closed" ∧ ¬ ("labels" : Str) = "below" ∧ ¬ ("labels" : Str) = "sizes" ∧ ¬ ("labels" : Str) = "closed" ∧ ¬ ("below" : Str) = "sizes" ∧ ¬ ("below" : Str) = "closed" ∧ ¬ ("sizes" : Str) = "closed" := by decide +kernel
theorem fo_put2 (d l : Addr) : putF "labels" (.ref l) [("numbers", .ref d)] = [(("numbers" : Str), V.ref d), ("labels", .ref l)] := by simp [putF, f_ne]
theorem fo_put3 (d l b : Addr) : putF "below" (.ref b) [("numbers", .ref d), ("labels", .ref l)] = [(("numbers" : Str), V.ref d), ("labels", .ref l), ("below", .ref b)] := by simp [putF, f_ne]
theorem fo_put4 (d l b z : Addr) : putF "sizes" (.ref z) [("numbers", .ref d), ("labels", .ref l), ("below", .ref b)] = [(("numbers" : Str), V.ref d), ("labels", .ref l), ("below", .ref b), ("sizes", .ref z)] := by simp [putF, f_ne]
theorem fo_put5 (F : FA) : putF "closed" (.ref F.c) [("numbers", .ref F.d), ("labels", .ref F.l), ("below", .ref F.b), ("sizes", .ref F.z)] = forF F := by simp [putF, f_ne, forF]
def spForI (P : Program) (w : World) (CF : Addr) : Sp := fun vs H Q _ => ∃ (x dx : Addr), vs = [.ref x] ∧ H x = some (.ins CF dx []) ∧ ∀ (H' : Hp) (F : FA), Kp x H H' → (H F.d = none ∧ H F.l = none ∧ H F.b = none ∧ H F.z = none ∧ H F.c = none) → ForAt P w CF H' x F [] [] [] → Q .non H'
abbrev N_Forest_init__ : List Str := ["self"]
theorem sc_Forest_init__ : FnScope N_Forest_init__ ["self"] (defScope s_Forest_init__) := ⟨rfl, rfl, rfl, by decide +kernel, rfl, by decide +kernel, by decide +kernel⟩
section
variable {P : Program} {w : World} {K : PySem.W.Frag} {mg : Str → Option Value} {base : Heap} {CF : Addr}
theorem body_forI (B : ForT K CF) {f0 : Addr} {cdv : Value} {A' : Around} {outer : List Env} {s' : Shared} {H : Hp} {vs : List V} {Q : VK} {E : XK} (hr : Room 1 (A'.deeper (envOfC "Forest.__init__" (defScope s_Forest_init__) s'.heap.objs.size f0 cdv))) (h : spForI P w CF vs H Q E) :
    ∃ t, PSs (cxOf CX0 P w K mg base N_Forest_init__ "Forest.__init__" (defScope s_Forest_init__) f0 cdv A' outer s' H E) (defBody s_Forest_init__) t ∧ t { nx := fun _ H' => Q .non H', rt := Q } (start N_Forest_init__ vs) H := by
  obtain ⟨x, dx, rfl, hx, k⟩ := h
  refine ⟨_, (pss_cons (ps_fld (pv 0) (show PE _ _ (tNNew P w) from pe_dnewN) rfl)
    (pss_cons (ps_fld (pv 0) (pe_lst pa_nil) rfl)
    (pss_cons (ps_fld (pv 0) (pe_lst pa_nil) rfl)
    (pss_cons (ps_fld (pv 0) (pe_lst pa_nil) rfl)
    (pss_one (ps_fld (pv 0) (pe_lst pa_nil) rfl)))))), ?_⟩
  refine fun d hd nd1 => ?_
  have nxd : x ≠ d := ne_of_none hx hd
  have s1 : Same H (upd H d (NdO P w d [])) := (Same.refl H).upd_new hd
  have d1 : (upd H d (NdO P w d [])) d = some (NdO P w d []) := upd_same
  generalize upd H d (NdO P w d []) = H1 at s1 d1 nd1
  refine ⟨_, rfl, x, CF, dx, _, rfl, s1 _ _ hx, B.cl, B.nN, (by show 0 < 1000; decide), ?_⟩
  have k2 : Kp x H (upd H1 x (.ins CF dx (putF "numbers" (.ref d) []))) := (Kp.same s1).upd
  have x2 : (upd H1 x (.ins CF dx (putF "numbers" (.ref d) []))) x = some (.ins CF dx [("numbers", .ref d)]) := upd_same
  have d2 : (upd H1 x (.ins CF dx (putF "numbers" (.ref d) []))) d = some (NdO P w d []) := by rw [upd_ne (Ne.symm nxd)]; exact d1
  generalize upd H1 x (.ins CF dx (putF "numbers" (.ref d) [])) = H2 at k2 x2 d2
  have old : ∀ {H' : Hp} {a : Addr}, Kp x H H' → H' a = none → a ≠ x → H a = none := fun {H' a} k h n => by
    cases e : H a with
    | none => rfl
    | some o =>
      have := k a o e n
      rw [h] at this
      cases this
  refine ⟨le_line (show 0 ≤ 10000000 by decide), fun l hl => ?_⟩
  have nxl : x ≠ l := ne_of_none x2 hl
  have ol := old k2 hl (Ne.symm nxl)
  have s3 := (Same.refl H2).upd_new (o := .lst []) hl
  have l3 : (upd H2 l (.lst [])) l = some (.lst []) := upd_same
  have k3 := k2.trans (Kp.same s3)
  have x3 := s3 _ _ x2
  have d3 := s3 _ _ d2
  generalize upd H2 l (.lst []) = H3 at s3 l3 k3 x3 d3
  refine ⟨_, rfl, x, CF, dx, _, rfl, x3, B.cl, B.nL, (by show 1 < 1000; decide), ?_⟩
  rw [fo_put2]
  have k4 : Kp x H (upd H3 x (.ins CF dx [("numbers", .ref d), ("labels", .ref l)])) := k3.upd
  have x4 : (upd H3 x (.ins CF dx [("numbers", .ref d), ("labels", .ref l)])) x = some (.ins CF dx [("numbers", .ref d), ("labels", .ref l)]) := upd_same
  have d4 : (upd H3 x (.ins CF dx [("numbers", .ref d), ("labels", .ref l)])) d = _ := (upd_ne (Ne.symm nxd)).trans d3
  have l4 : (upd H3 x (.ins CF dx [("numbers", .ref d), ("labels", .ref l)])) l = _ := (upd_ne (Ne.symm nxl)).trans l3
  generalize upd H3 x (.ins CF dx [("numbers", .ref d), ("labels", .ref l)]) = H4 at k4 x4 d4 l4
  refine ⟨le_line (show 0 ≤ 10000000 by decide), fun b hb => ?_⟩
  have nxb : x ≠ b := ne_of_none x4 hb
  have nlb : l ≠ b := ne_of_none l4 hb
  have ob := old k4 hb (Ne.symm nxb)
  have s5 := (Same.refl H4).upd_new (o := .lst []) hb
  have b5 : (upd H4 b (.lst [])) b = some (.lst []) := upd_same
  have k5 := k4.trans (Kp.same s5)
  have x5 := s5 _ _ x4
  have d5 := s5 _ _ d4
  have l5 := s5 _ _ l4
  generalize upd H4 b (.lst []) = H5 at s5 b5 k5 x5 d5 l5
  refine ⟨_, rfl, x, CF, dx, _, rfl, x5, B.cl, B.nB, (by show 2 < 1000; decide), ?_⟩
  rw [fo_put3]
  have k6 : Kp x H (upd H5 x (.ins CF dx [("numbers", .ref d), ("labels", .ref l), ("below", .ref b)])) := k5.upd
  have x6 : (upd H5 x (.ins CF dx [("numbers", .ref d), ("labels", .ref l), ("below", .ref b)])) x = some (.ins CF dx [("numbers", .ref d), ("labels", .ref l), ("below", .ref b)]) := upd_same
  have d6 : (upd H5 x (.ins CF dx [("numbers", .ref d), ("labels", .ref l), ("below", .ref b)])) d = _ := (upd_ne (Ne.symm nxd)).trans d5
  have l6 : (upd H5 x (.ins CF dx [("numbers", .ref d), ("labels", .ref l), ("below", .ref b)])) l = _ := (upd_ne (Ne.symm nxl)).trans l5
  have b6 : (upd H5 x (.ins CF dx [("numbers", .ref d), ("labels", .ref l), ("below", .ref b)])) b = _ := (upd_ne (Ne.symm nxb)).trans b5
  generalize upd H5 x (.ins CF dx [("numbers", .ref d), ("labels", .ref l), ("below", .ref b)]) = H6 at k6 x6 d6 l6 b6
  refine ⟨le_line (show 0 ≤ 10000000 by decide), fun z hz => ?_⟩
  have nxz : x ≠ z := ne_of_none x6 hz
  have nlz : l ≠ z := ne_of_none l6 hz
  have nbz : b ≠ z := ne_of_none b6 hz
  have oz := old k6 hz (Ne.symm nxz)
  have s7 := (Same.refl H6).upd_new (o := .lst []) hz
  have z7 : (upd H6 z (.lst [])) z = some (.lst []) := upd_same
  have k7 := k6.trans (Kp.same s7)
  have x7 := s7 _ _ x6
  have d7 := s7 _ _ d6
  have l7 := s7 _ _ l6
  have b7 := s7 _ _ b6
  generalize upd H6 z (.lst []) = H7 at s7 z7 k7 x7 d7 l7 b7
  refine ⟨_, rfl, x, CF, dx, _, rfl, x7, B.cl, B.nS, (by show 3 < 1000; decide), ?_⟩
  rw [fo_put4]
  have k8 : Kp x H (upd H7 x (.ins CF dx [("numbers", .ref d), ("labels", .ref l), ("below", .ref b), ("sizes", .ref z)])) := k7.upd
  have x8 : (upd H7 x (.ins CF dx [("numbers", .ref d), ("labels", .ref l), ("below", .ref b), ("sizes", .ref z)])) x = some (.ins CF dx [("numbers", .ref d), ("labels", .ref l), ("below", .ref b), ("sizes", .ref z)]) := upd_same
  have d8 : (upd H7 x (.ins CF dx [("numbers", .ref d), ("labels", .ref l), ("below", .ref b), ("sizes", .ref z)])) d = _ := (upd_ne (Ne.symm nxd)).trans d7
  have l8 : (upd H7 x (.ins CF dx [("numbers", .ref d), ("labels", .ref l), ("below", .ref b), ("sizes", .ref z)])) l = _ := (upd_ne (Ne.symm nxl)).trans l7
  have b8 : (upd H7 x (.ins CF dx [("numbers", .ref d), ("labels", .ref l), ("below", .ref b), ("sizes", .ref z)])) b = _ := (upd_ne (Ne.symm nxb)).trans b7
  have z8 : (upd H7 x (.ins CF dx [("numbers", .ref d), ("labels", .ref l), ("below", .ref b), ("sizes", .ref z)])) z = _ := (upd_ne (Ne.symm nxz)).trans z7
  generalize upd H7 x (.ins CF dx [("numbers", .ref d), ("labels", .ref l), ("below", .ref b), ("sizes", .ref z)]) = H8 at k8 x8 d8 l8 b8 z8
  refine ⟨le_line (show 0 ≤ 10000000 by decide), fun c hc => ?_⟩
  have nxc : x ≠ c := ne_of_none x8 hc
  have nlc : l ≠ c := ne_of_none l8 hc
  have nbc : b ≠ c := ne_of_none b8 hc
  have nzc : z ≠ c := ne_of_none z8 hc
  have oc := old k8 hc (Ne.symm nxc)
  have s9 := (Same.refl H8).upd_new (o := .lst []) hc
  have c9 : (upd H8 c (.lst [])) c = some (.lst []) := upd_same
  have k9 := k8.trans (Kp.same s9)
  have x9 := s9 _ _ x8
  have d9 := s9 _ _ d8
  have l9 := s9 _ _ l8
  have b9 := s9 _ _ b8
  have z9 := s9 _ _ z8
  generalize upd H8 c (.lst []) = H9 at s9 c9 k9 x9 d9 l9 b9 z9
  refine ⟨_, rfl, x, CF, dx, _, rfl, x9, B.cl, B.nC, (by show 4 < 1000; decide), ?_⟩
  obtain ⟨q1, q2, _⟩ := nd1
  refine k _ ⟨d, l, b, z, c⟩ k9.upd ⟨hd, ol, ob, oz, oc⟩ ⟨⟨nlb, nlz, nlc, nbz, nbc, nzc⟩, ⟨dx, by rw [upd_same]; exact congrArg (fun q => some (HO.ins CF dx q)) (fo_put5 ⟨d, l, b, z, c⟩)⟩, ⟨q1, q2, [], .nil, (upd_ne (Ne.symm nxd)).trans d9⟩, (upd_ne (Ne.symm nxl)).trans l9, ⟨[], (upd_ne (Ne.symm nxb)).trans b9, rfl, fun i b n h => by simp at h⟩, (upd_ne (Ne.symm nxz)).trans z9, (upd_ne (Ne.symm nxc)).trans c9, rfl, rfl⟩
end
end Sh
end
section
set_option Elab.async false
set_option linter.all false
set_option maxRecDepth 100000
set_option maxHeartbeats 2000000
namespace Sh
open PySem PySem.Spec PyProof.Rows L2
def ForC (P : Program) (w : World) (K : PySem.W.Frag) (mg : Str → Option Value) (base : Heap) (CF : Addr) : Prop := mg "Forest" = some (.ref CF) ∧ ∃ fI, Mk K CF fI ∧ FnR P w K mg base CX0 2 fI (spForI P w CF)
/-- Forest() -/
def tForest (P : Program) (w : World) (CF : Addr) : TE := fun _ H Q => ∀ (H' : Hp) (p : Addr) (F : FA), Same H H' → H p = none → (H F.d = none ∧ H F.l = none ∧ H F.b = none ∧ H F.z = none ∧ H F.c = none) → ForAt P w CF H' p F [] [] [] → Q (.ref p) H'
theorem pe_forest {X : Cx} {CF : Addr} {p pos : Pos} (D : ForC X.prog X.w X.K X.mg X.base CF) (hr : Room 3 X.A) (hg : Gl X "Forest" := by rfl) : PE X (.Call (.Name "Forest" p) [] [] pos) (tForest X.prog X.w CF) := by
  obtain ⟨hm, fI, M, F⟩ := D
  refine ⟨fun pins s σ H Q I h => ?_⟩
  refine wpAny_Call_Name_kw (ld_glob I hg hm ?_ (by decide))
  refine PySem.W.callWith_K0 I.kIn M.kp ?_
  refine run_makeS (E := E0) M F hr (fun pins H s e s' I c => False.elim c) I .nil fun x dx hx hd hxd => ?_
  have s1 : Same H (upd (upd H dx (.own x)) x (.ins CF dx [])) := ((Same.refl H).upd_new hd).upd_own hx
  refine ⟨x, dx, rfl, upd_same, fun H' Fa kk nf O => ⟨rfl, ?_⟩⟩
  refine h H' x Fa (fun b o hb => kk b o (s1 b o hb) (ne_of_none hb hx)) hx ?_ O
  exact ⟨s1.free nf.1, s1.free nf.2.1, s1.free nf.2.2.1, s1.free nf.2.2.2.1, s1.free nf.2.2.2.2⟩
end Sh
end
section
set_option Elab.async false
set_option linter.all false
set_option maxRecDepth 100000
set_option maxHeartbeats 2000000
namespace Sh
/-- the row of the tree whose knot on top is the node i -/
def tr (ns : List FN) (i : Nat) : List L2.Key :=
  match ns[i]? with
  | none => []
  | some n => n.1 :: (n.2.map fun c => if _ : c < i then tr ns c else []).flatten
termination_by i
def WF (ns : List FN) : Prop := ∀ (i : Nat) (n : FN), ns[i]? = some n → ∀ c ∈ n.2, c < i
theorem tr_eq {ns : List FN} {i : Nat} {n : FN} (W : WF ns) (h : ns[i]? = some n) : tr ns i = n.1 :: (n.2.map (tr ns)).flatten := by
  rw [tr, h]
  show n.1 :: (n.2.map fun c => if _ : c < i then tr ns c else []).flatten = _
  congr 2
  exact List.map_congr_left fun c hc => by rw [dif_pos (W i n h c hc)]
theorem WF.snoc {ns : List FN} {n : FN} (W : WF ns) (h : ∀ c ∈ n.2, c < ns.length) : WF (ns ++ [n]) := fun i m hm c hc => by
  by_cases hi : i < ns.length
  · rw [List.getElem?_append_left hi] at hm
    exact W i m hm c hc
  · rw [List.getElem?_append_right (by omega)] at hm
    cases hj : i - ns.length with
    | zero =>
      rw [hj] at hm
      cases hm
      have := h c hc
      omega
    | succ j =>
      rw [hj] at hm
      simp at hm
theorem tr_snoc {ns : List FN} {n : FN} (W : WF ns) (h : ∀ c ∈ n.2, c < ns.length) : ∀ i, i < ns.length → tr (ns ++ [n]) i = tr ns i := fun i => by
  induction i using Nat.strongRecOn with
  | ind i ih =>
    intro hi
    have g := List.getElem?_eq_getElem hi
    have g2 : (ns ++ [n])[i]? = some ns[i] := by rw [List.getElem?_append_left hi]; exact g
    rw [tr_eq (W.snoc h) g2, tr_eq W g]
    congr 2
    exact List.map_congr_left fun c hc => ih c (W i _ g c hc) (Nat.lt_trans (W i _ g c hc) hi)
/-- a node is added: what it stands for; the others stand for what they stood for -/
theorem FS.add_tr {S : FS} {n : FN} (W : WF S.ns) (h : ∀ c ∈ n.2, c < S.ns.length) : WF (S.add n).2.ns ∧ (∀ i, i < S.ns.length → tr (S.add n).2.ns i = tr S.ns i) ∧ tr (S.add n).2.ns (S.add n).1 = n.1 :: (n.2.map (tr S.ns)).flatten := by
  cases e : fidx S.ns n with
  | some i =>
    rw [FS.add_some e]
    exact ⟨W, fun _ _ => rfl, tr_eq W (fidx_some e)⟩
  | none =>
    rw [FS.add_none e]
    refine ⟨W.snoc h, tr_snoc W h, ?_⟩
    have g : (S.ns ++ [n])[S.ns.length]? = some n := by rw [List.getElem?_append_right (Nat.le_refl _), Nat.sub_self]; rfl
    show tr (S.ns ++ [n]) S.ns.length = _
    rw [tr_eq (W.snoc h) g]
    congr 2
    exact List.map_congr_left fun c hc => tr_snoc W h c (h c hc)
theorem FS.add_mem {S : FS} {n m : FN} (h : m ∈ (S.add n).2.ns) : m ∈ S.ns ∨ m = n := by
  cases e : fidx S.ns n with
  | some i =>
    rw [FS.add_some e] at h
    exact .inl h
  | none =>
    rw [FS.add_none e] at h
    rcases List.mem_append.mp h with q | q
    · exact .inl q
    · exact .inr (List.mem_singleton.mp q)
/-- how far a row is read from its end: suf has been read -/
structure GoOk (w : L2.Key → Nat) (S : FS) (st nd : List Nat) (suf : List L2.Key) : Prop where
  wf : WF S.ns
  ar : ∀ n ∈ S.ns, n.2.length = w n.1
  lt : ∀ c ∈ st, c < S.ns.length
  stk : (st.map (tr S.ns)).flatten = suf
  len : nd.length = suf.length
  nod : ∀ j c, nd[j]? = some c → c < S.ns.length ∧ tr S.ns c <+: suf.drop (suf.length - 1 - j)
theorem GoOk.step {w : L2.Key → Nat} {S : FS} {st nd : List Nat} {suf : List L2.Key} (G : GoOk w S st nd suf) {e : L2.Key} (h : w e ≤ st.length) :
    GoOk w (S.add (e, st.take (w e))).2 ((S.add (e, st.take (w e))).1 :: st.drop (w e)) (nd ++ [(S.add (e, st.take (w e))).1]) (e :: suf) := by
  have hc : ∀ c ∈ (e, st.take (w e)).2, c < S.ns.length := fun c hc => G.lt c (List.mem_of_mem_take hc)
  obtain ⟨W, keep, new⟩ := FS.add_tr (n := (e, st.take (w e))) G.wf hc
  obtain ⟨b1, b2, _⟩ := FS.add_lt S (e, st.take (w e))
  have mem := @FS.add_mem S (e, st.take (w e))
  generalize S.add (e, st.take (w e)) = a at W keep new b1 b2 mem
  have es : (st.take (w e)).map (tr S.ns) ++ (st.drop (w e)).map (tr S.ns) = st.map (tr S.ns) := by rw [← List.map_append, List.take_append_drop]
  have ed : (st.drop (w e)).map (tr a.2.ns) = (st.drop (w e)).map (tr S.ns) := List.map_congr_left fun c hc => keep c (G.lt c (List.mem_of_mem_drop hc))
  have stk2 : (((a.1 :: st.drop (w e)).map (tr a.2.ns)).flatten : List L2.Key) = e :: suf := by
    rw [List.map_cons, List.flatten_cons, new, ed]
    show e :: (((st.take (w e)).map (tr S.ns)).flatten ++ ((st.drop (w e)).map (tr S.ns)).flatten) = _
    rw [← List.flatten_append, es, G.stk]
  refine ⟨W, fun n hn => ?_, fun c hc => ?_, stk2, by rw [List.length_append, G.len]; rfl, fun j c hj => ?_⟩
  · rcases mem hn with q | q
    · exact G.ar n q
    · rw [q]
      show (st.take (w e)).length = w e
      rw [List.length_take]
      omega
  · rcases List.mem_cons.mp hc with q | q
    · rw [q]
      exact b1
    · exact Nat.lt_of_lt_of_le (G.lt c (List.mem_of_mem_drop q)) b2
  · by_cases hjl : j < nd.length
    · rw [List.getElem?_append_left hjl] at hj
      obtain ⟨c1, c2⟩ := G.nod j c hj
      refine ⟨Nat.lt_of_lt_of_le c1 b2, ?_⟩
      rw [keep c c1]
      rw [G.len] at hjl
      rw [show (e :: suf).length - 1 - j = (suf.length - 1 - j) + 1 by rw [List.length_cons]; omega, List.drop_succ_cons]
      exact c2
    · rw [List.getElem?_append_right (by omega)] at hj
      cases hk : j - nd.length with
      | succ k =>
        rw [hk] at hj
        simp at hj
      | zero =>
        rw [hk] at hj
        cases hj
        refine ⟨b1, ?_⟩
        have : j = suf.length := by rw [← G.len]; omega
        rw [this, show (e :: suf).length - 1 - suf.length = 0 by rw [List.length_cons]; omega, List.drop_zero, ← stk2, List.map_cons, List.flatten_cons]
        exact List.prefix_append _ _
theorem GoOk.start (w : L2.Key → Nat) {S : FS} (W : WF S.ns) (A : ∀ n ∈ S.ns, n.2.length = w n.1) : GoOk w S [] [] [] := ⟨W, A, fun c h => (nomatch h), rfl, rfl, fun j c h => by simp at h⟩
end Sh
end
section
set_option Elab.async false
set_option linter.all false
set_option maxRecDepth 100000
set_option maxHeartbeats 2000000
namespace Sh
theorem f_uq {α : Type} (w : α → Nat) : ∀ (l : List α) (a b : Nat), Mth.forest w l a = true → Mth.forest w l b = true → a = b
  | [], 0, 0, _, _ => rfl
  | [], _ + 1, _, h, _ => by cases h
  | [], _, _ + 1, _, h => by cases h
  | _ :: _, 0, _, h, _ => by cases h
  | _ :: _, _, 0, _, h => by cases h
  | x :: r, a + 1, b + 1, h, h' => by
    unfold Mth.forest at h h'
    have := f_uq w r _ _ h h'
    omega
/-- the tree of a node is one whole tree -/
theorem tr_forest {w : L2.Key → Nat} {ns : List FN} (W : WF ns) (A : ∀ n ∈ ns, n.2.length = w n.1) : ∀ i, i < ns.length → ∀ (r : List L2.Key) (m : Nat), Mth.forest w (tr ns i ++ r) (m + 1) = Mth.forest w r m := fun i => by
  induction i using Nat.strongRecOn with
  | ind i ih =>
    intro hi r m
    have g := List.getElem?_eq_getElem hi
    have key : ∀ (cs : List Nat), (∀ c ∈ cs, c < i) → ∀ (r : List L2.Key) (m : Nat), Mth.forest w ((cs.map (tr ns)).flatten ++ r) (cs.length + m) = Mth.forest w r m := by
      intro cs
      induction cs with
      | nil => intro _ r m; show Mth.forest w r (0 + m) = _; rw [Nat.zero_add]
      | cons c cs ihc =>
        intro hc r m
        have h1 := hc c List.mem_cons_self
        rw [List.map_cons, List.flatten_cons, List.append_assoc, show (c :: cs).length + m = (cs.length + m) + 1 by rw [List.length_cons]; omega, ih c h1 (Nat.lt_trans h1 hi)]
        exact ihc (fun x hx => hc x (List.mem_cons_of_mem _ hx)) r m
    rw [tr_eq W g, List.cons_append]
    show Mth.forest w (((ns[i]).2.map (tr ns)).flatten ++ r) (w (ns[i]).1 + m) = _
    rw [← A _ (List.getElem_mem hi)]
    exact key _ (W i _ g) r m
end Sh
end
section
set_option Elab.async false
set_option linter.all false
set_option maxRecDepth 100000
set_option maxHeartbeats 2000000
namespace Sh
/-- one whole tree -/
def OneT {α : Type} (w : α → Nat) (t : List α) : Prop := ∀ (r : List α) (m : Nat), Mth.forest w (t ++ r) (m + 1) = Mth.forest w r m
theorem OneT.pre {α : Type} {w : α → Nat} {t x : List α} (h1 : OneT w t) (h2 : OneT w (t ++ x)) : x = [] := by
  have a := h2 [] 0
  rw [List.append_nil, h1 x 0] at a
  cases x with
  | nil => rfl
  | cons y r => cases a
theorem OneT.eq {α : Type} {w : α → Nat} {t u r s : List α} (h1 : OneT w t) (h2 : OneT w u) (e : t ++ r = u ++ s) : t = u ∧ r = s := by
  rcases List.append_eq_append_iff.mp e with ⟨x, e1, e2⟩ | ⟨x, e1, e2⟩
  · rw [e1] at h2
    have := h1.pre h2
    subst this
    rw [List.append_nil] at e1
    exact ⟨e1.symm, e2⟩
  · rw [e1] at h1
    have := h2.pre h1
    subst this
    rw [List.append_nil] at e1
    exact ⟨e1, e2.symm⟩
theorem flat_inj {α : Type} {w : α → Nat} : ∀ {ts us : List (List α)}, ts.length = us.length → (∀ t ∈ ts, OneT w t) → (∀ u ∈ us, OneT w u) → ts.flatten = us.flatten → ts = us
  | [], [], _, _, _, _ => rfl
  | [], _ :: _, h, _, _, _ => by cases h
  | _ :: _, [], h, _, _, _ => by cases h
  | t :: ts, u :: us, h, h1, h2, e => by
    rw [List.flatten_cons, List.flatten_cons] at e
    obtain ⟨e1, e2⟩ := (h1 t List.mem_cons_self).eq (h2 u List.mem_cons_self) e
    rw [e1, flat_inj (Nat.succ.inj h) (fun x hx => h1 x (List.mem_cons_of_mem _ hx)) (fun x hx => h2 x (List.mem_cons_of_mem _ hx)) e2]
theorem tr_inj {w : L2.Key → Nat} {ns : List FN} (W : WF ns) (A : ∀ n ∈ ns, n.2.length = w n.1) (N : ns.Nodup) : ∀ i, i < ns.length → ∀ j, j < ns.length → tr ns i = tr ns j → i = j := fun i => by
  induction i using Nat.strongRecOn with
  | ind i ih =>
    intro hi j hj e
    have gi := List.getElem?_eq_getElem hi
    have gj := List.getElem?_eq_getElem hj
    rw [tr_eq W gi, tr_eq W gj] at e
    injection e with e1 e2
    have ai := A _ (List.getElem_mem hi)
    have aj := A _ (List.getElem_mem hj)
    have one : ∀ c, c < ns.length → OneT w (tr ns c) := fun c hc => tr_forest W A c hc
    have lti : ∀ c ∈ (ns[i]).2, c < ns.length := fun c hc => Nat.lt_trans (W i _ gi c hc) hi
    have ltj : ∀ c ∈ (ns[j]).2, c < ns.length := fun c hc => Nat.lt_trans (W j _ gj c hc) hj
    have em := flat_inj (w := w) (ts := (ns[i]).2.map (tr ns)) (us := (ns[j]).2.map (tr ns)) (by rw [List.length_map, List.length_map, ai, aj, e1]) (fun t ht => by
      obtain ⟨c, hc, rfl⟩ := List.mem_map.mp ht
      exact one c (lti c hc)) (fun t ht => by
      obtain ⟨c, hc, rfl⟩ := List.mem_map.mp ht
      exact one c (ltj c hc)) e2
    have ec : (ns[i]).2 = (ns[j]).2 := by
      apply List.ext_getElem?
      intro k
      have q := congrArg (fun l => l[k]?) em
      simp only [List.getElem?_map] at q
      cases h1 : (ns[i]).2[k]? with
      | none =>
        rw [h1] at q
        cases h2 : (ns[j]).2[k]? with
        | none => rfl
        | some d => rw [h2] at q; cases q
      | some c =>
        rw [h1] at q
        cases h2 : (ns[j]).2[k]? with
        | none => rw [h2] at q; cases q
        | some d =>
          rw [h2] at q
          have q : tr ns c = tr ns d := Option.some.inj q
          have hc := List.mem_of_getElem? h1
          rw [ih c (W i _ gi c hc) (lti c hc) d (ltj d (List.mem_of_getElem? h2)) q]
    have en : ns[i] = ns[j] := Prod.ext e1 ec
    exact (List.getElem_inj N).mp en
theorem FS.add_nodup {S : FS} {n : FN} (N : S.ns.Nodup) : (S.add n).2.ns.Nodup := by
  cases e : fidx S.ns n with
  | some i => rw [FS.add_some e]; exact N
  | none =>
    rw [FS.add_none e]
    refine List.nodup_append.mpr ⟨N, List.nodup_cons.mpr ⟨List.not_mem_nil, List.nodup_nil⟩, fun x hx z hz q => ?_⟩
    rw [List.mem_singleton.mp hz] at q
    exact fidx_none e (by rw [← q]; exact hx)
end Sh
end
section
set_option Elab.async false
set_option linter.all false
set_option maxRecDepth 100000
set_option maxHeartbeats 2000000
namespace RT
open PySem PySem.Spec PyProof.Rows
section
variable {prog : Program} {w : World} {A : Around} {E : Value → Shared → Prop} {s : Shared}
theorem wpAny_extend_rev {R : Result → Shared → Prop} {it l : Addr} {items : Array Value} (hh : A.handled = none) (hit : s.heap.IsRevIter it l ((items.size : Int) - 1)) (hl : s.heap.IsList l items) (hne : l ≠ it) (hn : items.size ≤ sizeLine) (S : Addr) (held : Value) (c₀ : Nat) (hSi : S ≠ it) (hSl : S ≠ l)
    (hS : s.heap.get? S = some { cls := .type "list", dict := none, data := .seq #[] c₀, slots := #[] })
    (hR : ∀ h' tk acc' c', (∀ b o, b ≠ S → b ≠ it → s.heap.get? b = some o → h'.get? b = some o) → h'.get? S = some { cls := .type "list", dict := none, data := .seq acc' c', slots := #[] } →
      ItemsOf (fun i v => items[items.size - 1 - i]? = some v) acc' items.size → R (.ok (.ret held)) { s with heap := h', toks := tk }) :
    wpAny (model prog w) A.in1 (Builtin.List.listExtendWith (.ref S) (.ref it) held)
      (fun fin s' => match fin with | .done f => R (.ok f) s' | .again c' => c'.quiet = true ∧ codeAny (model prog w) A c' R s') (fun e s' => R (.error e) s') s := by
  have W := (Walks.listRev (prog := prog) (w := w) (A := A.in1) hh it l hne items).toS
  have hSf : S ∉ [it, l] := by simp only [List.mem_cons, List.not_mem_nil, or_false, not_or]; exact ⟨hSi, hSl⟩
  have hT : s.TypeIs (.ref it) "list_reverseiterator" := Heap.IsRevIter.typeIs hit
  have h1 : Builtin.List.listSameRef (.ref S) (.ref it) = false := by simp [Builtin.List.listSameRef, hSi]
  unfold Builtin.List.listExtendWith
  refine wpAny_bind (wpAny_typeOf hT ?_)
  rw [if_neg (by rw [h1]; decide)]
  refine wpAny_bind (wpAny_pyIter_revIter hit ?_)
  refine wpAny_bind (wpAny_holding ?_)
  unfold Builtin.List.listLengthHint
  refine wpAny_bind (wpAny_specialOf hT nolen_lri ?_)
  show wpAny _ A.in1 (specialOf (Value.ref it) (Str.ofString "__length_hint__") >>= _) _ _ _
  refine wpAny_bind (wpAny_specialOf hT hint_lri ?_)
  generalize hid : ("list_reverseiterator.__length_hint__" : String) = id0
  wp_delta
  rw [show splitId id0 = some ("list_reverseiterator", "__length_hint__") from by subst hid; decide +kernel]
  subst hid
  refine wpAny_bind (wpAny_isInstance (b := true) hT (by rw [isSubtype_type]; kernel_rfl) ?_)
  refine wpAny_pure ?_
  rw [if_neg (by decide)]
  have e0 : ((items.size : Nat) : Int) - 1 - ((0 : Nat) : Int) = (items.size : Int) - 1 := by omega
  refine wpAny_pure ⟨plainId_quiet F.plain_extend_loop _, codeAny_extend_loopS W hn _ hSf _ items.size 0 _ _ _ rfl (Nat.zero_le _) ⟨Nat.zero_le _, by rw [e0]; exact hit, hl⟩ hS (ItemsOf.nil _) fun s' acc' c' hm hS' hacc => ?_⟩
  rw [Moved.eq_with hm]
  refine hR s'.heap s'.toks acc' c' (fun b o hb hi e => hm.heap b o (fun hmem => ?_) e) hS' hacc
  rcases List.mem_cons.mp hmem with e' | hmem
  · exact hb e'
  · exact hi (List.mem_singleton.mp hmem)
theorem wpAny_list_init_rev {R : Result → Shared → Prop} {it l : Addr} {items : Array Value} (hh : A.handled = none) (hit : s.heap.IsRevIter it l ((items.size : Int) - 1)) (hl : s.heap.IsList l items) (hne : l ≠ it) (hn : items.size ≤ sizeLine) (S : Addr) (hSi : S ≠ it) (hSl : S ≠ l)
    (hS : s.heap.get? S = some { cls := .type "list", data := .seq #[] })
    (hR : ∀ h' tk acc' c', (∀ b o, b ≠ S → b ≠ it → s.heap.get? b = some o → h'.get? b = some o) → h'.get? S = some { cls := .type "list", dict := none, data := .seq acc' c', slots := #[] } →
      ItemsOf (fun i v => items[items.size - 1 - i]? = some v) acc' items.size → R (.ok (.ret .none)) { s with heap := h', toks := tk }) :
    wpAny (model prog w) A.in1 (Builtin.«list.__init__» ⟨[.ref S, .ref it], []⟩)
      (fun fin s' => match fin with | .done f => R (.ok f) s' | .again c' => c'.quiet = true ∧ codeAny (model prog w) A c' R s') (fun e s' => R (.error e) s') s := by
  show wpAny _ _ (do let old ← Builtin.List.listItems (.ref S); Builtin.List.listUpdate (.ref S) (fun _ => #[]); letGo old.toList.reverse; Builtin.List.listExtendWith (.ref S) (.ref it) .none) _ _ s
  refine wpAny_bind ?_
  unfold Builtin.List.listItems
  refine wpAny_bind (wpAny_seqItems hS rfl (wpAny_pure ?_))
  show wpAny _ _ (updateSeq S (fun _ => #[]) >>= fun _ => letGo (#[] : Array Value).toList.reverse >>= fun _ => Builtin.List.listExtendWith (.ref S) (.ref it) .none) _ _ s
  refine wpAny_bind (wpAny_updateSeq hS rfl ?_)
  have hS₂ := Heap.get?_update_self (Obj.mapSeq (fun _ => (#[] : Array Value))) hS rfl
  have oth : ∀ b o, b ≠ S → s.heap.get? b = some o → (s.heap.update S (Obj.mapSeq (fun _ => (#[] : Array Value)))).get? b = some o :=
    fun b o hb e => (Heap.get?_update_other _ _ (Ne.symm hb)).trans e
  refine wpAny_bind (wpAny_letGo ?_)
  obtain ⟨ol, hol, hl2⟩ := id hl
  refine wpAny_extend_rev hh (hit.at fun o e => oth it o (Ne.symm hSi) e) ⟨ol, oth l _ (Ne.symm hSl) hol, hl2⟩ hne hn S .none _ hSi hSl hS₂ fun h' tk acc' c' hk hS' hacc => ?_
  exact hR h' tk acc' c' (fun b o hb hi e => hk b o hb hi (oth b o hb e)) hS' hacc
theorem call_list_rev {Q : Value → Shared → Prop} {it l : Addr} {items : Array Value} (hh : A.handled = none) (hit : s.heap.IsRevIter it l ((items.size : Int) - 1)) (hl : s.heap.IsList l items) (hne : l ≠ it) (hn : items.size ≤ sizeLine)
    (hQ : ∀ h' tk acc' c', (∀ b o, b ≠ it → s.heap.get? b = some o → h'.get? b = some o) →
      h'.get? s.heap.objs.size = some { cls := .type "list", dict := none, data := .seq acc' c', slots := #[] } → ItemsOf (fun i v => items[items.size - 1 - i]? = some v) acc' items.size → Q (.ref s.heap.objs.size) { s with heap := h', toks := tk }) :
    wpAny (model prog w) A (call (.type "list") [.ref it]) Q E s := by
  refine callType_codes (Q₁ := fun obj s₁ => obj = .ref s.heap.objs.size ∧ s₁ = { s with heap := s.heap.push { cls := .type "list", data := .seq #[] } }) F.called_list (F.typeCall_list_1 _) F.entry_list_init
    (code_list_new _ ⟨rfl, rfl⟩) fun obj s₁ h₁ => ?_
  obtain ⟨rfl, rfl⟩ := h₁
  have hS : (s.heap.push { cls := .type "list", data := .seq #[] }).get? s.heap.objs.size = some { cls := .type "list", data := .seq #[] } := Heap.get?_push_size _ rfl
  obtain ⟨oi, hoi, _⟩ := id hit
  obtain ⟨ol, hol, _⟩ := id hl
  refine ⟨⟨_, hS, rfl⟩, F.args_list_init_2 _ _, wpAny_list_init_rev (A := A.in1) hh (hit.at fun o e => Heap.get?_push_of_some _ e) (hl.push _) hne hn _ (Nat.ne_of_gt (Heap.lt_size hoi)) (Nat.ne_of_gt (Heap.lt_size hol)) hS fun h' tk acc' c' hk hS' hacc => ?_⟩
  exact ⟨rfl, hQ h' tk acc' c' (fun b o hb e => hk b o (Nat.ne_of_lt (Heap.lt_size e)) hb (Heap.get?_push_of_some _ e)) hS' hacc⟩
end
end RT
namespace RT
open PySem PySem.Spec PyProof.Rows L2
/-- list(reversed(x)), x a list: a new list -/
def tLstRev (K : PySem.W.Frag) (te : TE) : TE := fun σ H Q => te σ H fun v H1 => ∃ (a : Addr) (xs : List V), v = .ref a ∧ SqL K H1 a xs ∧ ∀ q, H1 q = none → Q (.ref q) (upd H1 q (.lst xs.reverse))
section
variable {X : Cx}
theorem pe_listRev {e : Expr} {te : TE} {p p2 pos pos2 : Pos} (hc : X.calm = true) (hg : Gl X "list") (hm : X.mg "list" = none) (hg2 : Gl X "reversed") (hm2 : X.mg "reversed" = none) (he : PE X e te)
    (hs : starEach [e] X.env = (false, eval e X.env) :: starEach [] X.env := by rfl)
    (hs2 : starEach [.Call (.Name "reversed" p2) [e] [] pos2] X.env = (false, eval (.Call (.Name "reversed" p2) [e] [] pos2) X.env) :: starEach [] X.env := by rfl) :
    PE X (.Call (.Name "list" p) [.Call (.Name "reversed" p2) [e] [] pos2] [] pos) (tLstRev X.K te) := by
  refine ⟨fun pins s σ H Q I h => ?_⟩
  refine Call_ (ld_blt I hg hm boot_list (PyProof.Rows.callWith_type1 (args_cons (Call_ (ld_blt I hg2 hm2 PyProof.Rows.boot_reversed (PyProof.Rows.callWith_type1 (args_cons (thn (he.run pins s σ H _ I h) fun u s1 ⟨v, H1, I1, r1, q1⟩ => args_nil ?_) hs) hs rfl))) hs2) hs2 rfl))
  obtain ⟨a, xs, ev, hq, q⟩ := q1
  subst ev
  obtain rfl : u = Value.ref a := r1
  obtain ⟨its, rv, p', hz⟩ := I1.list hq
  refine call_reversed_list p'.isList (args_nil ?_)
  have k0 : ∀ b o, s1.heap.get? b = some o → (s1.heap.push (revObj a ((its.toArray.size : Int) - 1))).get? b = some o := fun b o e => Heap.get?_push_of_some _ e
  have I2 : Inv X pins σ H1 { s1 with heap := s1.heap.push (revObj a ((its.toArray.size : Int) - 1)) } := I1.kept (t' := s1.toks) k0
  obtain ⟨f0, f1, f2, f3, f4, f5⟩ := I1.fpOk (H' := H1) (b := s1.heap.objs.size) (Nat.le_refl _) (I1.hok.fresh (Nat.le_refl _))
  have hl := p'.isList
  obtain ⟨ol, hol, _⟩ := id hl
  have hne : a ≠ s1.heap.objs.size := Nat.ne_of_lt (Heap.lt_size hol)
  have hn : its.toArray.size ≤ sizeLine := by rw [List.size_toArray, ← rv.length]; exact hz
  refine call_list_rev (s := { s1 with heap := s1.heap.push (revObj a ((its.toArray.size : Int) - 1)) }) (I1.ok.hd hc) ⟨_, Heap.get?_push_size _ rfl, rfl, rfl⟩ (hl.push _) hne hn fun h' tk acc c' hk hS hi => ?_
  refine ⟨.ref (s1.heap.push (revObj a ((its.toArray.size : Int) - 1))).objs.size, upd H1 (s1.heap.push (revObj a ((its.toArray.size : Int) - 1))).objs.size (.lst xs.reverse), I2.turnedNew (t' := tk) (ch := [s1.heap.objs.size]) (fun b o hb e => hk b o (fun z => hb (by rw [z]; exact List.mem_singleton.mpr rfl)) e) (fun b hb => ?_) (Nat.le_refl _) (show ObjOk X.prog X.w _ _ _ (.lst xs.reverse) from ⟨by rw [List.length_reverse]; exact hz, acc.toList, c', vals_rev rv hi, ?_⟩), rfl, q _ (I2.hok.fresh (Nat.le_refl _))⟩
  · rw [List.mem_singleton.mp hb]
    exact ⟨f0, f1, f2, f3, f4, f5⟩
  · rw [Array.toArray_toList]
    exact hS
end
end RT
end
section
set_option Elab.async false
set_option linter.all false
set_option maxRecDepth 100000
set_option maxHeartbeats 4000000
namespace Sh
open PySem PySem.Spec PyProof.Rows L2
open C8 (pss_cut tCut)
open Evl (ixN_nat)
def wstep (f : List (List Nat)) (l : List Nat) : List (List Nat) := f.flatMap fun w => l.map fun s => w ++ [s]
def ways (ls : List (List Nat)) : List (List Nat) := ls.foldl wstep [[]]
theorem ways_snoc (ls : List (List Nat)) (l : List Nat) : ways (ls ++ [l]) = wstep (ways ls) l := by
  unfold ways
  rw [List.foldl_append]
  rfl
theorem ways_succ {ls : List (List Nat)} {i : Nat} {l : List Nat} (h : ls[i]? = some l) : ways (ls.take (i + 1)) = wstep (ways (ls.take i)) l := by
  rw [← ways_snoc]
  congr 1
  rw [List.take_add_one, h]
  rfl
theorem wstep_len (f : List (List Nat)) (l : List Nat) : (wstep f l).length = f.length * l.length := by
  unfold wstep
  induction f with
  | nil => simp
  | cons w f ih =>
    rw [List.flatMap_cons, List.length_append, ih, List.length_map, List.length_cons, Nat.succ_mul]
    omega
theorem ways_len {ls : List (List Nat)} (h3 : ∀ l ∈ ls, l.length ≤ 3) : ∀ i, (ways (ls.take i)).length ≤ 3 ^ i := fun i => by
  induction i with
  | zero => rw [List.take_zero]; decide
  | succ i ih =>
    cases e : ls[i]? with
    | none =>
      rw [List.take_of_length_le (by have := List.getElem?_eq_none_iff.mp e; omega)]
      rw [List.take_of_length_le (by exact List.getElem?_eq_none_iff.mp e)] at ih
      exact Nat.le_trans ih (Nat.pow_le_pow_right (by decide) (Nat.le_succ i))
    | some l =>
      rw [ways_succ e, wstep_len, Nat.pow_succ]
      exact Nat.mul_le_mul ih (h3 l (List.mem_of_getElem? e))
theorem ways_mem {ls : List (List Nat)} {ss : List Nat} : ss ∈ ways ls ↔ ss.length = ls.length ∧ ∀ (i : Nat) (s : Nat) (l : List Nat), ss[i]? = some s → ls[i]? = some l → s ∈ l := by
  suffices h : ∀ (n : Nat) (ls : List (List Nat)), ls.length = n → ∀ ss : List Nat, ss ∈ ways ls ↔ ss.length = ls.length ∧ ∀ (i : Nat) (s : Nat) (l : List Nat), ss[i]? = some s → ls[i]? = some l → s ∈ l from h _ ls rfl ss
  intro n
  induction n with
  | zero =>
    intro ls e ss
    have : ls = [] := List.eq_nil_of_length_eq_zero e
    subst this
    show ss ∈ [[]] ↔ _
    rw [List.mem_singleton]
    constructor
    · rintro rfl
      exact ⟨rfl, fun i s l h => by simp at h⟩
    · rintro ⟨h, _⟩
      exact List.eq_nil_of_length_eq_zero h
  | succ n ih =>
    intro ls e ss
    have hne : ls ≠ [] := fun z => by rw [z] at e; cases e
    have hl := List.dropLast_concat_getLast hne
    generalize ls.dropLast = m at hl
    generalize ls.getLast hne = l at hl
    subst hl
    rw [List.length_append] at e
    have em : m.length = n := by have : ([l] : List (List Nat)).length = 1 := rfl; omega
    rw [ways_snoc]
    unfold wstep
    rw [List.mem_flatMap]
    constructor
    · rintro ⟨w, hw, hs⟩
      obtain ⟨s, hs', rfl⟩ := List.mem_map.mp hs
      obtain ⟨h1, h2⟩ := (ih m em w).mp hw
      refine ⟨by rw [List.length_append, List.length_append, h1]; rfl, fun i x k hx hk => ?_⟩
      by_cases c : i < w.length
      · rw [List.getElem?_append_left c] at hx
        rw [List.getElem?_append_left (by omega)] at hk
        exact h2 i x k hx hk
      · have ci : i = w.length := by
          have := (List.getElem?_eq_some_iff.mp hx).1
          rw [List.length_append] at this
          have : ([s] : List Nat).length = 1 := rfl
          omega
        subst ci
        rw [List.getElem?_append_right (Nat.le_refl _), Nat.sub_self] at hx
        rw [List.getElem?_append_right (by omega), h1, Nat.sub_self] at hk
        cases hx
        cases hk
        exact hs'
    · rintro ⟨h1, h2⟩
      have h1' : ss.length = m.length + 1 := by rw [h1, List.length_append]; rfl
      have sne : ss ≠ [] := fun z => by rw [z] at h1'; cases h1'
      have hs := List.dropLast_concat_getLast sne
      generalize ss.dropLast = w at hs
      generalize ss.getLast sne = s at hs
      subst hs
      have lw : w.length = m.length := by rw [List.length_append] at h1'; have : ([s] : List Nat).length = 1 := rfl; omega
      refine ⟨w, (ih m em w).mpr ⟨lw, fun i x k hx hk => ?_⟩, List.mem_map.mpr ⟨s, ?_, rfl⟩⟩
      · have c := (List.getElem?_eq_some_iff.mp hx).1
        exact h2 i x k (by rw [List.getElem?_append_left c]; exact hx) (by rw [List.getElem?_append_left (by omega)]; exact hk)
      · refine h2 w.length s l ?_ ?_
        · rw [List.getElem?_append_right (Nat.le_refl _), Nat.sub_self]; rfl
        · rw [List.getElem?_append_right (by omega), lw, Nat.sub_self]; rfl
theorem nI_snoc (w : List Nat) (s : Nat) : nI w ++ [V.int ((s : Nat) : Int)] = nI (w ++ [s]) := by
  unfold nI
  rw [List.map_append]
  rfl
theorem nI_len (w : List Nat) : (nI w).length = w.length := by unfold nI; rw [List.length_map]
theorem nI_at {w : List Nat} {i s : Nat} (h : w[i]? = some s) : (nI w)[i]? = some (.int ((s : Nat) : Int)) := by
  unfold nI
  rw [List.getElem?_map, h]
  rfl
theorem catA_n {K : PySem.W.Frag} {H : Hp} {a b : Addr} {xs ys : List V} {Q : VK} (ha : H a = some (.tup xs)) (hb : H b = some (.tup ys)) (hl : xs.length + ys.length ≤ 10000000) (k : ∀ r H', Same H H' → H' r = some (.tup (xs ++ ys)) → Q (.ref r) H') : rCatA K (.ref a) (.ref b) H Q :=
  ⟨a, b, xs, ys, rfl, rfl, SqT.of ha, SqT.of hb, le_line hl, fun e => k b H (Same.refl H) (by rw [e]; exact hb), fun _ e => k a H (Same.refl H) (by rw [e, List.append_nil]; exact ha), fun _ _ p hp => k p _ ((Same.refl H).upd_new hp) upd_same⟩
theorem wstep_take {f : List (List Nat)} {l : List Nat} {j : Nat} {w : List Nat} (h : f[j]? = some w) : wstep (f.take (j + 1)) l = wstep (f.take j) l ++ l.map fun s => w ++ [s] := by
  unfold wstep
  rw [List.take_add_one, h, List.flatMap_append]
  show _ ++ ((l.map fun s => w ++ [s]) ++ []) = _
  rw [List.append_nil]
theorem wmap_take {w l : List Nat} {j s : Nat} (h : l[j]? = some s) : (l.take (j + 1)).map (fun s => w ++ [s]) = (l.take j).map (fun s => w ++ [s]) ++ [w ++ [s]] := by
  rw [List.take_add_one, h, List.map_append]
  rfl
theorem wstep_le {f : List (List Nat)} {l : List Nat} {w : List Nat} {j k : Nat} (hj : j < f.length) (hk : k < l.length) (hf : f.length ≤ 1000) (hl : l.length ≤ 1000) : (wstep (f.take j) l ++ (l.take k).map fun s => w ++ [s]).length ≤ 1001000 := by
  rw [List.length_append, wstep_len, List.length_map, List.length_take, List.length_take, Nat.min_eq_left (by omega), Nat.min_eq_left (by omega)]
  have : j * l.length ≤ 1000 * 1000 := Nat.mul_le_mul (by omega) hl
  omega
def WaysAt (H : Hp) (L : Addr) (f : List (List Nat)) : Prop := ∃ us : List Addr, H L = some (.lst (us.map V.ref)) ∧ PlAt nI H us f
def spTuples52 : Sp := fun vs H Q _ => ∃ (many n : Nat), vs = [.int (many : Nat), .int (n : Nat)] ∧ many ≤ 3 ∧ n ≤ 3 ∧ ∀ H' L, Same H H' → H L = none → WaysAt H' L (ways (List.replicate n (List.range many))) → Q (.ref L) H'
def LsAt (H : Hp) (bs : List Addr) (ls : List (List Nat)) : Prop := bs.length = ls.length ∧ ∀ (i : Nat) (b : Addr) (l : List Nat), bs[i]? = some b → ls[i]? = some l → H b = some (.lst (nI l))
def spWays52 : Sp := fun vs H Q _ => ∃ (B : Addr) (bs : List Addr) (ls : List (List Nat)), vs = [.ref B] ∧ H B = some (.lst (bs.map V.ref)) ∧ LsAt H bs ls ∧ ls.length ≤ 3 ∧ (∀ l ∈ ls, l.length ≤ 3) ∧ ∀ H' L, Same H H' → H L = none → WaysAt H' L (ways ls) → Q (.ref L) H'
abbrev N_law_tuples : List Str := ["many", "length", "found", "turn", "wider", "row", "state"]
theorem sc_law_tuples : FnScope N_law_tuples ["many", "length"] (defScope s_law_tuples) := ⟨rfl, rfl, rfl, by decide +kernel, rfl, by decide +kernel, by decide +kernel⟩
abbrev N_law_ways : List Str := ["lists", "found", "row", "wider", "way", "state"]
theorem sc_law_ways : FnScope N_law_ways ["lists"] (defScope s_law_ways) := ⟨rfl, rfl, rfl, by decide +kernel, rfl, by decide +kernel, by decide +kernel⟩
section
variable {P : Program} {w : World} {K : PySem.W.Frag} {mg : Str → Option Value} {base : Heap}
theorem ok_tuples52 (T : Bl mg) (D : Def0 K mg "_law_tuples" s_law_tuples) : DefOk P w K mg base CX0 1 "_law_tuples" spTuples52 := by
  refine D.ok sc_law_tuples (fun vs H Q E h => ?_) (fun _ _ _ _ _ _ us hl => match us, hl with | [_, _], _ => rfl) (fun f cdv A outer s' H vs Q E hr h => ?_)
  · obtain ⟨many, n, rfl, _⟩ := h
    rfl
  · obtain ⟨many, n, rfl, hm, hn, k⟩ := h
    refine ⟨_, (pss_cons (ps_set (i := 2) sc_law_tuples.nd rfl (Or.inl rfl) (pe_lst (pa_cons (pe_tup pa_nil) pa_nil)))
      (pss_cons (ps_for PassesOwn.never rfl (pi_range1 (by rfl) T.b_range (pa_cons (pv 1) pa_nil)) (pg_name (i := 3) sc_law_tuples.nd rfl (Or.inl rfl))
        (pss_cons (ps_set (i := 4) sc_law_tuples.nd rfl (Or.inl rfl) (pe_lst pa_nil))
        (pss_cons (ps_for PassesOwn.never rfl (pi_list (pv 2)) (pg_name (i := 5) sc_law_tuples.nd rfl (Or.inl rfl))
          (pss_one (ps_for PassesOwn.never rfl (pi_range1 (by rfl) T.b_range (pa_cons (pv 0) pa_nil)) (pg_name (i := 6) sc_law_tuples.nd rfl (Or.inl rfl))
            (pss_one (ps_expr (pe_bm PySem.F.plainAttrs_list PySem.F.slot_list_append PySem.F.type_list_append mt_append (pv 4) (pa_cons (pe_op op_catA (pv 5) (pe_tup (pa_cons (pv 6) pa_nil))) pa_nil)))))))
        (pss_one (ps_set (i := 2) sc_law_tuples.nd rfl (Or.inl rfl) (pv 4))))))
      (pss_one (ps_ret (pv 2))))), ?_⟩
    refine ⟨le_line (show 0 ≤ 10000000 by decide), fun t ht => ?_⟩
    have s1 := (Same.refl H).upd_new (o := .tup []) ht
    have t1 : (upd H t (.tup [])) t = some (.tup (nI [])) := upd_same
    generalize upd H t (.tup []) = H1 at s1 t1
    refine ⟨le_line (show 1 ≤ 10000000 by decide), fun F hF => ?_⟩
    have s2 := s1.upd_new (o := .lst [.ref t]) hF
    have F2 : (upd H1 F (.lst [.ref t])) F = some (.lst ([t].map V.ref)) := upd_same
    have t2 : (upd H1 F (.lst [.ref t])) t = some (.tup (nI [])) := by rw [upd_ne (ne_of_none t1 hF)]; exact t1
    generalize upd H1 F (.lst [.ref t]) = H2 at s2 F2 t2
    refine ⟨_, rfl, _, rfl, by omega, by omega, ?_⟩
    rw [Int.toNat_natCast]
    refine for_range (n := n) (fun i σ H' => ∃ (x3 x4 x5 x6 : Option V) (F : Addr), σ = [some (.int (many : Nat)), some (.int (n : Nat)), some (.ref F), x3, x4, x5, x6] ∧ Same H H' ∧ H F = none ∧ WaysAt H' F (ways (List.replicate i (List.range many))))
      ⟨none, none, none, none, F, rfl, s2, s1.free hF, [t], F2, .one t2⟩ ?_ ?_
    · rintro i σ H3 hi ⟨x3, x4, x5, x6, F3, rfl, s3, _, us, hus, hP⟩
      have lw : (ways (List.replicate i (List.range many))).length ≤ 27 := by
        have h := ways_len (ls := List.replicate i (List.range many)) (fun l hl => by rw [List.eq_of_mem_replicate hl, List.length_range]; exact hm) i
        rw [List.take_of_length_le (by rw [List.length_replicate]; omega)] at h
        refine Nat.le_trans h (Nat.le_trans (Nat.pow_le_pow_right (by decide) (show i ≤ 3 by omega)) (by decide))
      have er : ways (List.replicate (i + 1) (List.range many)) = wstep (ways (List.replicate i (List.range many))) (List.range many) := by rw [← ways_snoc, List.replicate_succ']
      have lf : ∀ z ∈ ways (List.replicate i (List.range many)), z.length ≤ 3 := fun z hz => by
        rw [(ways_mem.mp hz).1, List.length_replicate]
        omega
      generalize ways (List.replicate i (List.range many)) = f at hP lw er lf
      refine ⟨le_line (show 0 ≤ 10000000 by decide), fun W hW => ?_⟩
      have s4 := s3.upd_new (o := .lst []) hW
      have W4 : (upd H3 W (.lst [])) W = some (.lst (([] : List Addr).map V.ref)) := upd_same
      have nWF : F3 ≠ W := ne_of_none hus hW
      have F4 : (upd H3 W (.lst [])) F3 = some (.lst (us.map V.ref)) := by rw [upd_ne nWF]; exact hus
      have P4 := hP.keep (H' := upd H3 W (.lst [])) fun t ys h => by rw [upd_ne (ne_of_none h hW)]; exact h
      have nW : H W = none := s3.free hW
      generalize upd H3 W (.lst []) = H4 at s4 W4 F4 P4
      have lus : (us.map V.ref).length = f.length := by rw [List.length_map, P4.1]
      refine ⟨_, rfl, F3, rfl, ⟨_, SqL.of F4⟩, for_list (xs := us.map V.ref) (fun j σ H' => ∃ (x3 x5 x6 : Option V) (ws : List Addr), σ = [some (.int (many : Nat)), some (.int (n : Nat)), some (.ref F3), x3, some (.ref W), x5, x6] ∧ Same H H' ∧ H' F3 = some (.lst (us.map V.ref)) ∧ PlAt nI H' us f ∧ H' W = some (.lst (ws.map V.ref)) ∧ PlAt nI H' ws (wstep (f.take j) (List.range many)))
        ⟨_, x5, x6, [], rfl, s4, F4, P4, W4, .nil⟩ (fun i σ H' _ ⟨_, _, _, _, _, _, h, _⟩ => SqL.of h) ?_ ?_⟩
      · rintro j v σ H5 hv ⟨x3, x5, x6, ws, rfl, s5, F5, P5, W5, R5⟩
        have hjl : j < f.length := by rw [← lus]; exact (List.getElem?_eq_some_iff.mp hv).1
        have hju : j < us.length := by rw [P5.1]; exact hjl
        have hf := List.getElem?_eq_getElem hjl
        have hu := List.getElem?_eq_getElem hju
        rw [List.getElem?_map, hu] at hv
        injection hv with hv
        subst hv
        generalize f[j] = row at hf
        generalize us[j] = u at hu
        refine ⟨_, rfl, _, rfl, by omega, by omega, ?_⟩
        rw [Int.toNat_natCast]
        refine for_range (n := many) (fun k σ H' => ∃ (x3 x6 : Option V) (ws : List Addr), σ = [some (.int (many : Nat)), some (.int (n : Nat)), some (.ref F3), x3, some (.ref W), some (.ref u), x6] ∧ Same H H' ∧ H' F3 = some (.lst (us.map V.ref)) ∧ PlAt nI H' us f ∧ H' W = some (.lst (ws.map V.ref)) ∧ PlAt nI H' ws (wstep (f.take j) (List.range many) ++ ((List.range many).take k).map fun s => row ++ [s]))
          ⟨x3, x6, ws, rfl, s5, F5, P5, W5, by rw [List.take_zero, List.map_nil, List.append_nil]; exact R5⟩ ?_ ?_
        · rintro k σ H6 hk ⟨x3, x6, ws, rfl, s6, F6, P6, W6, R6⟩
          have hu6 := P6.2 j u row hu hf
          have e0 : (0 : Int) + (k : Nat) = ((k : Nat) : Int) := by omega
          rw [e0]
          refine ⟨_, rfl, .inl ⟨rfl, _, SqL.of W6⟩, _, rfl, _, rfl, le_line (show 1 ≤ 10000000 by decide), fun q hq => ?_⟩
          have s7 := (Same.refl H6).upd_new (o := .tup [.int ((k : Nat) : Int)]) hq
          have q7 : (upd H6 q (.tup [.int ((k : Nat) : Int)])) q = some (.tup [.int ((k : Nat) : Int)]) := upd_same
          generalize upd H6 q (.tup [.int ((k : Nat) : Int)]) = H7 at s7 q7
          have lr := lf row (List.mem_of_getElem? hf)
          refine catA_n (s7 _ _ hu6) q7 (by rw [nI_len]; show row.length + 1 ≤ _; omega) fun r H8 s8 hr8 => ?_
          rw [nI_snoc] at hr8
          have s68 := s7.trans s8
          have W8 := s68 _ _ W6
          have R8 := R6.keep fun t ys h => s68 _ _ h
          have ll := wstep_le (w := row) (j := j) (k := k) hjl (by rw [List.length_range]; exact hk) (by omega) (by rw [List.length_range]; omega)
          refine ⟨W, _, _, rfl, rfl, W8, by rw [List.length_map, R8.1]; exact lt_line (by omega), ?_⟩
          have kt : ∀ t ys, H8 t = some (.tup ys) → (upd H8 W (.lst (ws.map V.ref ++ [V.ref r]))) t = some (.tup ys) := fun t ys h => by rw [upd_ne (ne_of h W8 (fun e => nomatch e))]; exact h
          refine ⟨_, _, ws ++ [r], rfl, (s6.trans s68).upd_own nW, by rw [upd_ne nWF]; exact s68 _ _ F6, (P6.keep fun t ys h => s68 _ _ h).keep kt, by rw [upd_same, List.map_append]; rfl, ?_⟩
          rw [wmap_take (s := k) (by rw [List.getElem?_range hk]), ← List.append_assoc]
          exact (R8.snoc hr8).keep kt
        · rintro σ H6 ⟨x3, x6, ws, rfl, s6, F6, P6, W6, R6⟩
          refine ⟨_, _, _, ws, rfl, s6, F6, P6, W6, ?_⟩
          rw [wstep_take hf]
          rw [List.take_of_length_le (l := List.range many) (by rw [List.length_range]; omega)] at R6
          exact R6
      · rintro σ H5 ⟨x3, x5, x6, ws, rfl, s5, F5, P5, W5, R5⟩
        rw [lus, List.take_length, ← er] at R5
        exact ⟨_, rfl, _, _, _, _, W, rfl, s5, nW, ws, W5, R5⟩
    · rintro σ H3 ⟨x3, x4, x5, x6, F3, rfl, s3, nF, W3⟩
      exact ⟨_, rfl, k _ _ s3 nF W3⟩
theorem ok_ways52 (T : Bl mg) (D : Def0 K mg "_law_ways" s_law_ways) : DefOk P w K mg base CX0 1 "_law_ways" spWays52 := by
  refine D.ok sc_law_ways (fun vs H Q E h => ?_) (fun _ _ _ _ _ _ us hl => match us, hl with | [_], _ => rfl) (fun f cdv A outer s' H vs Q E hr h => ?_)
  · obtain ⟨B, bs, ls, rfl, _⟩ := h
    rfl
  · obtain ⟨B, bs, ls, rfl, hB, hL, l3, ll3, k⟩ := h
    have lbs : (bs.map V.ref).length = ls.length := by rw [List.length_map, hL.1]
    refine ⟨_, (pss_cons (ps_set (i := 1) sc_law_ways.nd rfl (Or.inl rfl) (pe_lst (pa_cons (pe_tup pa_nil) pa_nil)))
      (pss_cons (ps_for PassesOwn.never rfl (pi_list (pv 0)) (pg_name (i := 2) sc_law_ways.nd rfl (Or.inl rfl))
        (pss_cons (ps_set (i := 3) sc_law_ways.nd rfl (Or.inl rfl) (pe_lst pa_nil))
        (pss_cons (ps_for PassesOwn.never rfl (pi_list (pv 1)) (pg_name (i := 4) sc_law_ways.nd rfl (Or.inl rfl))
          (pss_one (ps_for PassesOwn.never rfl (pi_list (pv 2)) (pg_name (i := 5) sc_law_ways.nd rfl (Or.inl rfl))
            (pss_one (ps_expr (pe_bm PySem.F.plainAttrs_list PySem.F.slot_list_append PySem.F.type_list_append mt_append (pv 3) (pa_cons (pe_op op_catA (pv 4) (pe_tup (pa_cons (pv 5) pa_nil))) pa_nil)))))))
        (pss_one (ps_set (i := 1) sc_law_ways.nd rfl (Or.inl rfl) (pv 3))))))
      (pss_one (ps_ret (pv 1))))), ?_⟩
    refine ⟨le_line (show 0 ≤ 10000000 by decide), fun t ht => ?_⟩
    have s1 := (Same.refl H).upd_new (o := .tup []) ht
    have t1 : (upd H t (.tup [])) t = some (.tup (nI [])) := upd_same
    generalize upd H t (.tup []) = H1 at s1 t1
    refine ⟨le_line (show 1 ≤ 10000000 by decide), fun F hF => ?_⟩
    have s2 := s1.upd_new (o := .lst [.ref t]) hF
    have F2 : (upd H1 F (.lst [.ref t])) F = some (.lst ([t].map V.ref)) := upd_same
    have t2 : (upd H1 F (.lst [.ref t])) t = some (.tup (nI [])) := by rw [upd_ne (ne_of_none t1 hF)]; exact t1
    generalize upd H1 F (.lst [.ref t]) = H2 at s2 F2 t2
    refine ⟨_, rfl, B, rfl, ⟨_, SqL.of (s2 _ _ hB)⟩, for_list (xs := bs.map V.ref) (fun i σ H' => ∃ (x2 x3 x4 x5 : Option V) (F : Addr), σ = [some (.ref B), some (.ref F), x2, x3, x4, x5] ∧ Same H H' ∧ H F = none ∧ WaysAt H' F (ways (ls.take i)))
      ⟨none, none, none, none, F, rfl, s2, s1.free hF, [t], F2, .one t2⟩ (fun i σ H' _ ⟨_, _, _, _, _, _, s, _⟩ => SqL.of (s _ _ hB)) ?_ ?_⟩
    · rintro i v σ H3 hv ⟨x2, x3, x4, x5, F3, rfl, s3, _, us, hus, hP⟩
      have hil : i < ls.length := by rw [← lbs]; exact (List.getElem?_eq_some_iff.mp hv).1
      have hib : i < bs.length := by rw [hL.1]; exact hil
      have hl := List.getElem?_eq_getElem hil
      have hb := List.getElem?_eq_getElem hib
      rw [List.getElem?_map, hb] at hv
      injection hv with hv
      subst hv
      have l3' := ll3 _ (List.getElem_mem hil)
      generalize ls[i] = l at hl l3'
      generalize bs[i] = b at hb
      have hbl := hL.2 i b l hb hl
      have lw : (ways (ls.take i)).length ≤ 27 := Nat.le_trans (ways_len ll3 i) (Nat.le_trans (Nat.pow_le_pow_right (by decide) (show i ≤ 3 by omega)) (by decide))
      have er := ways_succ hl
      have lf : ∀ z ∈ ways (ls.take i), z.length ≤ 3 := fun z hz => by
        rw [(ways_mem.mp hz).1, List.length_take]
        omega
      generalize ways (ls.take i) = f at hP lw er lf
      refine ⟨le_line (show 0 ≤ 10000000 by decide), fun W hW => ?_⟩
      have s4 := s3.upd_new (o := .lst []) hW
      have W4 : (upd H3 W (.lst [])) W = some (.lst (([] : List Addr).map V.ref)) := upd_same
      have nWF : F3 ≠ W := ne_of_none hus hW
      have F4 : (upd H3 W (.lst [])) F3 = some (.lst (us.map V.ref)) := by rw [upd_ne nWF]; exact hus
      have P4 := hP.keep (H' := upd H3 W (.lst [])) fun t ys h => by rw [upd_ne (ne_of_none h hW)]; exact h
      have nW : H W = none := s3.free hW
      generalize upd H3 W (.lst []) = H4 at s4 W4 F4 P4
      have lus : (us.map V.ref).length = f.length := by rw [List.length_map, P4.1]
      refine ⟨_, rfl, F3, rfl, ⟨_, SqL.of F4⟩, for_list (xs := us.map V.ref) (fun j σ H' => ∃ (x4 x5 : Option V) (ws : List Addr), σ = [some (.ref B), some (.ref F3), some (.ref b), some (.ref W), x4, x5] ∧ Same H H' ∧ H' F3 = some (.lst (us.map V.ref)) ∧ PlAt nI H' us f ∧ H' W = some (.lst (ws.map V.ref)) ∧ PlAt nI H' ws (wstep (f.take j) l))
        ⟨x4, x5, [], rfl, s4, F4, P4, W4, .nil⟩ (fun i σ H' _ ⟨_, _, _, _, _, h, _⟩ => SqL.of h) ?_ ?_⟩
      · rintro j v σ H5 hv ⟨x4, x5, ws, rfl, s5, F5, P5, W5, R5⟩
        have hjl : j < f.length := by rw [← lus]; exact (List.getElem?_eq_some_iff.mp hv).1
        have hju : j < us.length := by rw [P5.1]; exact hjl
        have hf := List.getElem?_eq_getElem hjl
        have hu := List.getElem?_eq_getElem hju
        rw [List.getElem?_map, hu] at hv
        injection hv with hv
        subst hv
        generalize f[j] = row at hf
        generalize us[j] = u at hu
        refine ⟨_, rfl, b, rfl, ⟨_, SqL.of (s5 _ _ hbl)⟩, for_list (xs := nI l) (fun k σ H' => ∃ (x5 : Option V) (ws : List Addr), σ = [some (.ref B), some (.ref F3), some (.ref b), some (.ref W), some (.ref u), x5] ∧ Same H H' ∧ H' F3 = some (.lst (us.map V.ref)) ∧ PlAt nI H' us f ∧ H' W = some (.lst (ws.map V.ref)) ∧ PlAt nI H' ws (wstep (f.take j) l ++ (l.take k).map fun s => row ++ [s]))
          ⟨x5, ws, rfl, s5, F5, P5, W5, by rw [List.take_zero, List.map_nil, List.append_nil]; exact R5⟩ (fun i σ H' _ ⟨_, _, _, s, _⟩ => SqL.of (s _ _ hbl)) ?_ ?_⟩
        · rintro k v σ H6 hv ⟨x5, ws, rfl, s6, F6, P6, W6, R6⟩
          have hk : k < l.length := by rw [← nI_len l]; exact (List.getElem?_eq_some_iff.mp hv).1
          have hs := List.getElem?_eq_getElem hk
          rw [nI_at hs] at hv
          injection hv with hv
          subst hv
          generalize l[k] = s at hs
          have hu6 := P6.2 j u row hu hf
          refine ⟨_, rfl, .inl ⟨rfl, _, SqL.of W6⟩, _, rfl, _, rfl, le_line (show 1 ≤ 10000000 by decide), fun q hq => ?_⟩
          have s7 := (Same.refl H6).upd_new (o := .tup [.int ((s : Nat) : Int)]) hq
          have q7 : (upd H6 q (.tup [.int ((s : Nat) : Int)])) q = some (.tup [.int ((s : Nat) : Int)]) := upd_same
          generalize upd H6 q (.tup [.int ((s : Nat) : Int)]) = H7 at s7 q7
          have lr := lf row (List.mem_of_getElem? hf)
          refine catA_n (s7 _ _ hu6) q7 (by rw [nI_len]; show row.length + 1 ≤ _; omega) fun r H8 s8 hr8 => ?_
          rw [nI_snoc] at hr8
          have s68 := s7.trans s8
          have W8 := s68 _ _ W6
          have R8 := R6.keep fun t ys h => s68 _ _ h
          have ll := wstep_le (w := row) (j := j) (k := k) hjl hk (by omega) (by omega)
          refine ⟨W, _, _, rfl, rfl, W8, by rw [List.length_map, R8.1]; exact lt_line (by omega), ?_⟩
          have kt : ∀ t ys, H8 t = some (.tup ys) → (upd H8 W (.lst (ws.map V.ref ++ [V.ref r]))) t = some (.tup ys) := fun t ys h => by rw [upd_ne (ne_of h W8 (fun e => nomatch e))]; exact h
          refine ⟨_, ws ++ [r], rfl, (s6.trans s68).upd_own nW, by rw [upd_ne nWF]; exact s68 _ _ F6, (P6.keep fun t ys h => s68 _ _ h).keep kt, by rw [upd_same, List.map_append]; rfl, ?_⟩
          rw [wmap_take hs, ← List.append_assoc]
          exact (R8.snoc hr8).keep kt
        · rintro σ H6 ⟨x5, ws, rfl, s6, F6, P6, W6, R6⟩
          refine ⟨_, _, ws, rfl, s6, F6, P6, W6, ?_⟩
          rw [wstep_take hf]
          rw [nI_len, List.take_length] at R6
          exact R6
      · rintro σ H5 ⟨x4, x5, ws, rfl, s5, F5, P5, W5, R5⟩
        rw [lus, List.take_length, ← er] at R5
        exact ⟨_, rfl, _, _, _, _, W, rfl, s5, nW, ws, W5, R5⟩
    · rintro σ H3 ⟨x2, x3, x4, x5, F3, rfl, s3, nF, W3⟩
      rw [lbs, List.take_length] at W3
      exact ⟨_, rfl, k _ _ s3 nF W3⟩
end
end Sh
end
section
set_option Elab.async false
set_option linter.all false
set_option maxRecDepth 100000
set_option maxHeartbeats 4000000
namespace L2
open PySem PySem.Spec PyProof.Rows
section
variable {J J1 : It} {n n1 : Nat} {G G1 : Hp → Prop} {Y Y1 : Nat → Hp → V → Hp → Prop}
theorem in_it (w : Walk J1 n1 G1 Y1) {g1 : TG} {tt1 : TT} {te : TE} {vs1 : List Nat} {σ2 : St} {H4 : Hp} {D : Addr} {Nx : Hp → Prop} (Pw : Nat → Hp → Prop) (h0 : Pw 0 H4) (hG : ∀ i H, i ≤ n1 → Pw i H → G1 H)
    (hs : ∀ i x H H', i < n1 → Pw i H → Y1 i H x H' → g1 x (wipe σ2 vs1) H' fun σ3 H5 => wipe σ3 vs1 = wipe σ2 vs1 ∧ tt1 σ3 H5 fun b H6 =>
      if b = true then te σ3 H6 fun y H7 => ∃ acc, H7 D = some (.lst acc) ∧ acc.length < sizeLine ∧ Pw (i + 1) (upd H7 D (.lst (acc ++ [y]))) else Pw (i + 1) H6) (hd : ∀ H, Pw n1 H → Nx H) :
    ∃ W1 : Nat → Nat → Hp → Prop, (∃ m, W1 0 m H4) ∧ ∀ j k H, W1 j k H →
      (J1.stop j H ∧ Nx H) ∨ (J1.go j H ∧ ∃ Nx1 : Hp → Prop, (∀ H', Nx1 H' → ∃ k', k' < k ∧ W1 (j + 1) k' H') ∧ ∀ x H', J1.yld j H x H' → g1 x (wipe σ2 vs1) H' fun σ3 H5 => wipe σ3 vs1 = wipe σ2 vs1 ∧ tt1 σ3 H5 fun b H6 =>
        if b = true then te σ3 H6 fun y H7 => ∃ acc, H7 D = some (.lst acc) ∧ acc.length < sizeLine ∧ Nx1 (upd H7 D (.lst (acc ++ [y]))) else Nx1 H6) := by
  refine ⟨fun i m H => m = n1 - i ∧ i ≤ n1 ∧ Pw i H, ⟨n1, by simp, Nat.zero_le _, h0⟩, ?_⟩
  rintro i m H ⟨rfl, hi, p⟩
  have q := hG i H hi p
  by_cases hlt : i < n1
  · refine .inr ⟨w.goes i H hlt q, Pw (i + 1), fun H' p' => ⟨n1 - (i + 1), by omega, rfl, hlt, p'⟩, fun x H' y => hs i x H H' hlt p (w.yields i H x H' hlt q y)⟩
  · have e : i = n1 := by omega
    subst e
    exact .inl ⟨w.stops H q, hd H p⟩
theorem lc2_it (w : Walk J n G Y) {g g1 : TG} {tt tt1 : TT} {wi1 : TI} {te : TE} {vs vs1 : List Nat} {σ : St} {H1 : Hp} {D : Addr} {Qd : Hp → Prop} (Pv : Nat → Hp → Prop) (h0 : Pv 0 (upd H1 D (.lst []))) (hG : ∀ i H, i ≤ n → Pv i H → G H)
    (hs : ∀ i x H H', i < n → Pv i H → Y i H x H' → g x (wipe σ vs) H' fun σ2 H2 => wipe σ2 vs = wipe σ vs ∧ tt σ2 H2 fun b H3 =>
      if b = true then wi1 σ2 H3 fun J1 H4 => ∃ W1 : Nat → Nat → Hp → Prop, (∃ m, W1 0 m H4) ∧ ∀ j k H, W1 j k H →
        (J1.stop j H ∧ Pv (i + 1) H) ∨ (J1.go j H ∧ ∃ Nx1 : Hp → Prop, (∀ H', Nx1 H' → ∃ k', k' < k ∧ W1 (j + 1) k' H') ∧ ∀ x H', J1.yld j H x H' → g1 x (wipe σ2 vs1) H' fun σ3 H5 => wipe σ3 vs1 = wipe σ2 vs1 ∧ tt1 σ3 H5 fun b H6 =>
          if b = true then te σ3 H6 fun y H7 => ∃ acc, H7 D = some (.lst acc) ∧ acc.length < sizeLine ∧ Nx1 (upd H7 D (.lst (acc ++ [y]))) else Nx1 H6)
      else Pv (i + 1) H3) (hd : ∀ H, Pv n H → Qd H) :
    ∃ W : Nat → Nat → Hp → Prop, (∃ m, W 0 m (upd H1 D (.lst []))) ∧ ∀ i m H, W i m H →
      (J.stop i H ∧ Qd H) ∨ (J.go i H ∧ ∃ Nx : Hp → Prop, (∀ H', Nx H' → ∃ m', m' < m ∧ W (i + 1) m' H') ∧ ∀ x H', J.yld i H x H' → g x (wipe σ vs) H' fun σ2 H2 => wipe σ2 vs = wipe σ vs ∧ tt σ2 H2 fun b H3 =>
        if b = true then wi1 σ2 H3 fun J1 H4 => ∃ W1 : Nat → Nat → Hp → Prop, (∃ m, W1 0 m H4) ∧ ∀ j k H, W1 j k H →
          (J1.stop j H ∧ Nx H) ∨ (J1.go j H ∧ ∃ Nx1 : Hp → Prop, (∀ H', Nx1 H' → ∃ k', k' < k ∧ W1 (j + 1) k' H') ∧ ∀ x H', J1.yld j H x H' → g1 x (wipe σ2 vs1) H' fun σ3 H5 => wipe σ3 vs1 = wipe σ2 vs1 ∧ tt1 σ3 H5 fun b H6 =>
            if b = true then te σ3 H6 fun y H7 => ∃ acc, H7 D = some (.lst acc) ∧ acc.length < sizeLine ∧ Nx1 (upd H7 D (.lst (acc ++ [y]))) else Nx1 H6)
        else Nx H3) := by
  refine ⟨fun i m H => m = n - i ∧ i ≤ n ∧ Pv i H, ⟨n, by simp, Nat.zero_le _, h0⟩, ?_⟩
  rintro i m H ⟨rfl, hi, p⟩
  have q := hG i H hi p
  by_cases hlt : i < n
  · refine .inr ⟨w.goes i H hlt q, Pv (i + 1), fun H' p' => ⟨n - (i + 1), by omega, rfl, hlt, p'⟩, fun x H' y => hs i x H H' hlt p (w.yields i H x H' hlt q y)⟩
  · have e : i = n := by omega
    subst e
    exact .inl ⟨w.stops H q, hd H p⟩
end
end L2
namespace L2
open PySem PySem.Spec PyProof.Rows
section
variable {X : Cx}
/-- y = {k: v for ..} -/
theorem ps_setDc {i : Nat} {y : Str} {py : Pos} {kx vx tg iter : Expr} {ifs : List Expr} {scope : Scope} {own : List (Str × Nat)} {pos spos : Pos} {wi : TI} {g : TG} {tt : TT} {tk tv : TE} (hc : X.calm = true) (hN : X.N.Nodup) (hy : X.N[i]? = some y) (hyl : X.env.scope.names.lookup y = some .local)
    (hsw : swapsWith (.DictComp kx vx [⟨tg, iter, ifs, 0⟩] scope pos) (some (.Name y py)) spos.line X.env = pure true) (hi : PI X tg iter wi) (ok : BlkOk X.N X.env.scope scope own)
    (hg : ∀ (s : Shared) (H : Hp) (C : Addr) (cl : List (Str × Addr)) (fp : List Addr), PG (X.blk s H scope (compEnvC scope cl C X.env) fp) tg g) (ht : ∀ (s : Shared) (H : Hp) (C : Addr) (cl : List (Str × Addr)) (fp : List Addr), PTs (X.blk s H scope (compEnvC scope cl C X.env) fp) ifs tt)
    (hk : ∀ (s : Shared) (H : Hp) (C : Addr) (cl : List (Str × Addr)) (fp : List Addr), PE (X.blk s H scope (compEnvC scope cl C X.env) fp) kx tk)
    (he : ∀ (s : Shared) (H : Hp) (C : Addr) (cl : List (Str × Addr)) (fp : List Addr), PE (X.blk s H scope (compEnvC scope cl C X.env) fp) vx tv) (hs : ∀ x, foldedSetIterable iter X.env x = pure x := by intro _; rfl) :
    PS X (.Assign [.Name y py] (.DictComp kx vx [⟨tg, iter, ifs, 0⟩] scope pos) spos) (tAsg (tDc wi g tt tk tv (own.map (·.2))) (gName i)) := by
  refine ⟨fun pins s σ H D I h => ?_⟩
  rw [exec_Assign_Name_used _ _ _ _ hsw]
  refine wpAny_bind (wpAny_standAt (wpAny_bind ?_))
  show wpAny _ X.A (do let _ ← comprehension (.DictComp kx vx [⟨tg, iter, ifs, 0⟩] scope pos) scope X.env (firstIterPos [⟨tg, iter, ifs, 0⟩] pos) newDict false (eval iter X.env) (some (assign (.Name y py) X.env))) _ _ s
  have h : tDc wi g tt tk tv (own.map (·.2)) σ H (fun x H1 => gName i x σ H1 D.nx) := h
  refine wpAny_bind (thn (dc_core (Qf := fun _ s' => SP X pins D .next s') hc hN I hi ok hg ht hk he hs h fun L C s' m H' I' q hn f => ?_) fun _ s' hq => wpAny_pure (wpAny_pure hq))
  show wpAny _ _ (assign (.Name y py) X.env (.ref L)) _ _ _
  refine wpAny_assign_Name (store_ok2 (v := V.ref L) I' hN hy (.inl hyl) rfl (fun s2 I2 ⟨a, sb, ha⟩ => ?_) (.inr hyl))
  obtain ⟨f0, f1, f2, f3, f4, f5⟩ := f
  have haC : C ≠ a := by
    rcases ha with z | z
    · rw [z]; exact f1
    · exact fun e => f4 y a z e.symm
  refine ⟨m, hn.sameBut sb haC, fun h3 sb3 => ?_⟩
  exact ⟨_, H', I2.turned (t' := s2.toks) (fun b o hb e => (sb3.2 b hb).trans e) f0 f1 f3 f4 f5, q⟩
theorem sw_trueD {kx vx : Expr} {gs : List Comprehension} {scope : Scope} {pos py : Pos} {y : Str} {l : Nat} {env : Env} (hk : env.scope.kind = .function) (hy : env.scope.names.lookup y = some .local) (hl : (py.line == pos.line) = true)
    (ha : (scope.names.any fun (n, k) => n == y && (k == .local || k == .cell)) = false) : swapsWith (.DictComp kx vx gs scope pos) (some (.Name y py)) l env = pure true := by
  have ky : env.kindOf y = some .local := hy
  have hb : env.blockKind = .function := by unfold Env.blockKind; rw [hk]; rfl
  unfold swapsWith
  simp only [hb, ky, ha, Expr.pos, hl]
  rfl
/-- o.m() by a positional promise -/
theorem pe_methR0 {CX : CXT} {k : Nat} {C f : Addr} {m : Str} {sp : Sp} {E : XK} {o : Expr} {ta : TE} {apos pos : Pos} {pl : Sem Bool} (he : PE X o ta) (c : Cls X.K C) (hm : Meth X.K C m f)
    (F : FnR X.prog X.w X.K X.mg X.base CX k f sp) (hr : Room k X.A) (hx : Passes CX X E)
    (ht : eval (.Call (.Attribute o m apos) [] [] pos) X.env = (do
      let ov ← eval o X.env
      standAt apos.atName
      let (f, first) ← holding [ov] (getMethod ov m pl)
      callWith pos f first (backTo pos (starEach [] X.env)) (backToKw pos (keywordEach [] X.env))) := by rfl) :
    PE X (.Call (.Attribute o m apos) [] [] pos) (tMethR C m sp E ta tNil) := by
  refine ⟨fun pins s σ H Q I h => ?_⟩
  refine PySem.W.methodCall_KW (pl := pl) (thn (he.run pins s σ H _ I h) fun u s1 ⟨x, H1, I1, rx, a, dx, fs, ex, ea, l, q⟩ => ?_) ht
  subst ex
  obtain rfl : u = Value.ref a := rx
  refine getmeth_ok I1 ea c hm l ?_
  exact PySem.W.callWith_K0 (first := [.ref a]) I1.kIn hm.kp (wpAny_call (run_fnR (us := [.ref a]) (vs := [.ref a]) F hr hx I1 (.cons rfl .nil) q))
end
end L2
namespace Sh
open PySem PySem.Spec PyProof.Rows L2
open C8 (pss_cut tCut)
open Evl (ixN_nat)
theorem get_map_r {us : List Addr} {i : Nat} {v : V} (h : (us.map V.ref)[i]? = some v) : ∃ u, us[i]? = some u ∧ v = .ref u := by
  rw [List.getElem?_map] at h
  obtain ⟨u, hu, e⟩ := Option.map_eq_some_iff.mp h
  exact ⟨u, hu, e.symm⟩
abbrev N_rows_from : List Str := ["lists", "rows", "states", "row", "state"]
theorem sc_rows_from : FnScope N_rows_from ["lists"] (defScope s_rows_from) := ⟨rfl, rfl, rfl, by decide +kernel, rfl, by decide +kernel, by decide +kernel⟩
section
variable {P : Program} {w : World} {K : PySem.W.Frag} {mg : Str → Option Value} {base : Heap}
theorem ok_rows_from (T : Bl mg) (D : Def0 K mg "rows_from" s_rows_from) : DefOk P w K mg base CX0 1 "rows_from" spWays52 := by
  refine D.ok sc_rows_from (fun vs H Q E h => ?_) (fun _ _ _ _ _ _ us hl => match us, hl with | [_], _ => rfl) (fun f cdv A outer s' H vs Q E hr h => ?_)
  · obtain ⟨B, bs, ls, rfl, _⟩ := h
    rfl
  · obtain ⟨B, bs, ls, rfl, hB, hL, l3, ll3, k⟩ := h
    have lbs : (bs.map V.ref).length = ls.length := by rw [List.length_map, hL.1]
    refine ⟨_, (pss_cons (ps_set (i := 1) sc_rows_from.nd rfl (Or.inl rfl) (pe_lst (pa_cons (pe_tup pa_nil) pa_nil)))
      (pss_cons (ps_for PassesOwn.never rfl (pi_list (pv 0)) (pg_name (i := 2) sc_rows_from.nd rfl (Or.inr rfl))
        (pss_one (ps_setLc2 (i := 1) (own := [("row", 3), ("state", 4)]) (vs1 := [4]) (g := (gName 3)) (g1 := (gName 4)) (tt := tYes) (tt1 := tYes) rfl sc_rows_from.nd rfl rfl (sw_true rfl rfl rfl (by decide +kernel)) (pi_list (pv 1)) (blkOk_by (N := N_rows_from) (sc := defScope s_rows_from) (by decide +kernel)) (by decide) (fun _ _ _ _ _ => (pg_name (i := 3) sc_rows_from.nd rfl (Or.inl rfl))) (fun _ _ _ _ _ => pts_nil) (fun _ _ _ _ _ => (show PI _ _ _ (iList K _) from (pi_list (pv 2)))) (fun _ _ _ _ _ => (pg_name (i := 4) sc_rows_from.nd rfl (Or.inl rfl))) (fun _ _ _ _ _ => pts_nil) (fun _ _ _ _ _ => (pe_op (show OpR _ _ (rCatA K) from op_catA) (pv 3) (pe_tup (pa_cons (pv 4) pa_nil)))))))
      (pss_one (ps_ret (pv 1))))), ?_⟩
    refine ⟨le_line (show 0 ≤ 10000000 by decide), fun t ht => ?_⟩
    have s1 := (Same.refl H).upd_new (o := .tup []) ht
    have t1 : (upd H t (.tup [])) t = some (.tup (nI [])) := upd_same
    generalize upd H t (.tup []) = H1 at s1 t1
    refine ⟨le_line (show 1 ≤ 10000000 by decide), fun F hF => ?_⟩
    have s2 := s1.upd_new (o := .lst [.ref t]) hF
    have F2 : (upd H1 F (.lst [.ref t])) F = some (.lst ([t].map V.ref)) := upd_same
    have t2 : (upd H1 F (.lst [.ref t])) t = some (.tup (nI [])) := by rw [upd_ne (ne_of_none t1 hF)]; exact t1
    generalize upd H1 F (.lst [.ref t]) = H2 at s2 F2 t2
    refine ⟨_, rfl, B, rfl, ⟨_, SqL.of (s2 _ _ hB)⟩, for_list (xs := bs.map V.ref) (fun i σ H' => ∃ (x2 x3 x4 : Option V) (F : Addr), σ = [some (.ref B), some (.ref F), x2, x3, x4] ∧ Same H H' ∧ H F = none ∧ WaysAt H' F (ways (ls.take i)))
      ⟨none, none, none, F, rfl, s2, s1.free hF, [t], F2, .one t2⟩ (fun i σ H' _ ⟨_, _, _, _, _, s, _⟩ => SqL.of (s _ _ hB)) ?_ ?_⟩
    · rintro i v σ H3 hv ⟨x2, x3, x4, F3, rfl, s3, _, us, hus, hP⟩
      obtain ⟨b, hb, rfl⟩ := get_map_r hv
      have hil : i < ls.length := by rw [← hL.1]; exact (List.getElem?_eq_some_iff.mp hb).1
      have hl := List.getElem?_eq_getElem hil
      have l3' := ll3 _ (List.getElem_mem hil)
      generalize ls[i] = l at hl l3'
      have hbl := hL.2 i b l hb hl
      have lw : (ways (ls.take i)).length ≤ 27 := Nat.le_trans (ways_len ll3 i) (Nat.le_trans (Nat.pow_le_pow_right (by decide) (show i ≤ 3 by omega)) (by decide))
      have er := ways_succ hl
      have lf : ∀ z ∈ ways (ls.take i), z.length ≤ 3 := fun z hz => by
        rw [(ways_mem.mp hz).1, List.length_take]
        omega
      generalize ways (ls.take i) = f at hP lw er lf
      have lus : (us.map V.ref).length = f.length := by rw [List.length_map, hP.1]
      refine ⟨_, rfl, F3, rfl, ⟨_, SqL.of hus⟩, fun W hW => lc2_it (walk_list (xs := us.map V.ref)) (fun j H' => Same H3 H' ∧ ∃ ws : List Addr, H' W = some (.lst (ws.map V.ref)) ∧ PlAt nI H' ws (wstep (f.take j) l)) ⟨(Same.refl H3).upd_new hW, [], upd_same, .nil⟩ (fun j H' _ ⟨q, _⟩ => SqL.of (q _ _ hus)) ?_ ?_⟩
      · rintro j v H5' H5 hj ⟨s5, ws, W5, R5⟩ ⟨rfl, hv⟩
        obtain ⟨u, hu, rfl⟩ := get_map_r hv
        have hjl : j < f.length := by rw [← hP.1]; exact (List.getElem?_eq_some_iff.mp hu).1
        have hf := List.getElem?_eq_getElem hjl
        generalize f[j] = row at hf
        have hu5 := s5 _ _ (hP.2 j u row hu hf)
        have lr := lf row (List.mem_of_getElem? hf)
        refine ⟨rfl, _, rfl, b, rfl, ⟨_, SqL.of ((s3.trans s5) _ _ hbl)⟩, in_it (walk_list (xs := nI l)) (fun k H' => Same H3 H' ∧ ∃ ws : List Addr, H' W = some (.lst (ws.map V.ref)) ∧ PlAt nI H' ws (wstep (f.take j) l ++ (l.take k).map fun s => row ++ [s])) ⟨s5, ws, W5, by rw [List.take_zero, List.map_nil, List.append_nil]; exact R5⟩ (fun k H' _ ⟨q, _⟩ => SqL.of ((s3.trans q) _ _ hbl)) ?_ ?_⟩
        · rintro k v H6' H6 hk ⟨s6, ws, W6, R6⟩ ⟨rfl, hv⟩
          rw [nI_len] at hk
          have hs := List.getElem?_eq_getElem hk
          rw [nI_at hs] at hv
          injection hv with hv
          subst hv
          generalize l[k] = s at hs
          have hu6 := s6 _ _ (hP.2 j u row hu hf)
          refine ⟨rfl, _, rfl, _, rfl, le_line (show 1 ≤ 10000000 by decide), fun q hq => ?_⟩
          have s7 := (Same.refl H6).upd_new (o := .tup [.int ((s : Nat) : Int)]) hq
          have q7 : (upd H6 q (.tup [.int ((s : Nat) : Int)])) q = some (.tup [.int ((s : Nat) : Int)]) := upd_same
          generalize upd H6 q (.tup [.int ((s : Nat) : Int)]) = H7 at s7 q7
          refine catA_n (s7 _ _ hu6) q7 (by rw [nI_len]; show row.length + 1 ≤ _; omega) fun r H8 s8 hr8 => ?_
          rw [nI_snoc] at hr8
          have s68 := s7.trans s8
          have W8 := s68 _ _ W6
          have R8 := R6.keep fun t ys h => s68 _ _ h
          have ll := wstep_le (w := row) (j := j) (k := k) hjl hk (by omega) (by omega)
          have kt : ∀ t ys, H8 t = some (.tup ys) → (upd H8 W (.lst (ws.map V.ref ++ [V.ref r]))) t = some (.tup ys) := fun t ys h => by rw [upd_ne (ne_of h W8 (fun e => nomatch e))]; exact h
          refine ⟨_, W8, by rw [List.length_map, R8.1]; exact lt_line (by omega), (s6.trans s68).upd_own hW, ws ++ [r], by rw [upd_same, List.map_append]; rfl, ?_⟩
          rw [wmap_take hs, ← List.append_assoc]
          exact (R8.snoc hr8).keep kt
        · rintro H6 ⟨s6, ws, W6, R6⟩
          refine ⟨s6, ws, W6, ?_⟩
          rw [wstep_take hf]
          rw [nI_len, List.take_length] at R6
          exact R6
      · rintro H5 ⟨s5, ws, W5, R5⟩
        rw [lus, List.take_length, ← er] at R5
        exact ⟨_, _, _, W, rfl, s3.trans s5, s3.free hW, ws, W5, R5⟩
    · rintro σ H3 ⟨x2, x3, x4, F3, rfl, s3, nF, W3⟩
      rw [lbs, List.take_length] at W3
      exact ⟨_, rfl, k _ _ s3 nF W3⟩
end
end Sh
end
section
set_option Elab.async false
set_option linter.all false
set_option maxRecDepth 100000
set_option maxHeartbeats 8000000
namespace Sh
open PySem PySem.Spec PyProof.Rows L2
open C8 (pss_cut tCut)
open Evl (ixN_nat)
abbrev REnt : Type := Str × List Nat × Nat
def ek (e : REnt) : Str × List Nat := (e.1, e.2.1)
def nkR (p : Str × List Nat) : NKey := (.inr p.1, p.2.map fun i => .inl ((i : Nat) : Int))
def rkv (e : REnt) : NKey × V := (nkR (ek e), .int ((e.2.2 : Nat) : Int))
theorem nkR_inj {p q : Str × List Nat} (h : nkR p = nkR q) : p = q := by
  obtain ⟨a, l⟩ := p
  obtain ⟨b, m⟩ := q
  unfold nkR at h
  obtain ⟨h1, h2⟩ := Prod.mk.inj h
  injection h1 with h1
  have h1 : a = b := h1
  have h2 : l = m := inl_inj h2
  rw [h1, h2]
def wq (many : Nat) (q : Row) : List (List Nat) := ways (List.replicate q.2.toNat (List.range many))
def ksOf (rows : List Row) (many : Nat) : List (Str × List Nat) := rows.flatMap fun q => (wq many q).map fun ss => (q.1, ss)
theorem wstep_nd {f : List (List Nat)} {l : List Nat} (n : Nat) (hl : ∀ w ∈ f, w.length = n) (h1 : f.Nodup) (h2 : l.Nodup) : (wstep f l).Nodup := by
  unfold wstep
  rw [List.nodup_iff_pairwise_ne, List.pairwise_flatMap]
  refine ⟨fun w hw => ?_, ?_⟩
  · rw [List.pairwise_map]
    exact (List.nodup_iff_pairwise_ne.mp h2).imp fun h e => h (by
      have := List.append_cancel_left e
      injection this)
  · refine (List.nodup_iff_pairwise_ne.mp h1).imp_of_mem fun {a b} ha hb h x hx y hy e => ?_
    obtain ⟨s, _, rfl⟩ := List.mem_map.mp hx
    obtain ⟨t, _, rfl⟩ := List.mem_map.mp hy
    exact h (List.append_inj_left' e rfl)
theorem wq_nd (many : Nat) (q : Row) : (wq many q).Nodup := by
  unfold wq
  generalize q.2.toNat = n
  induction n with
  | zero => exact List.nodup_cons.mpr ⟨List.not_mem_nil, List.nodup_nil⟩
  | succ n ih =>
    rw [List.replicate_succ', ways_snoc]
    refine wstep_nd n (fun w hw => ?_) ih List.nodup_range
    rw [(ways_mem.mp hw).1, List.length_replicate]
theorem wq_mem {many : Nat} {q : Row} {ss : List Nat} : ss ∈ wq many q ↔ ss.length = q.2.toNat ∧ ∀ s ∈ ss, s < many := by
  unfold wq
  rw [ways_mem, List.length_replicate]
  constructor
  · rintro ⟨h1, h2⟩
    refine ⟨h1, fun s hs => ?_⟩
    obtain ⟨i, hi, e⟩ := List.mem_iff_getElem.mp hs
    have := h2 i s (List.range many) (by rw [List.getElem?_eq_getElem hi, e]) (by rw [List.getElem?_replicate, if_pos (by omega)])
    exact List.mem_range.mp this
  · rintro ⟨h1, h2⟩
    refine ⟨h1, fun i s l hs hl => ?_⟩
    rw [List.getElem?_replicate] at hl
    split at hl
    · injection hl with hl
      rw [← hl]
      exact List.mem_range.mpr (h2 s (List.mem_of_getElem? hs))
    · cases hl
theorem wq_len {many : Nat} {q : Row} (h : many ≤ 3) (hq : q.2 ≤ 3) : (wq many q).length ≤ 27 := by
  have h := ways_len (ls := List.replicate q.2.toNat (List.range many)) (fun l hl => by rw [List.eq_of_mem_replicate hl, List.length_range]; exact h) q.2.toNat
  rw [List.take_of_length_le (by rw [List.length_replicate]; omega)] at h
  exact Nat.le_trans h (Nat.le_trans (Nat.pow_le_pow_right (by decide) (show q.2.toNat ≤ 3 by omega)) (by decide))
theorem ks_nd {rows : List Row} {many : Nat} (nd : (rows.map (·.1)).Nodup) : (ksOf rows many).Nodup := by
  unfold ksOf
  rw [List.nodup_iff_pairwise_ne, List.pairwise_flatMap]
  refine ⟨fun q hq => ?_, ?_⟩
  · rw [List.pairwise_map]
    exact (List.nodup_iff_pairwise_ne.mp (wq_nd many q)).imp fun h e => h (Prod.mk.inj e).2
  · have := (List.nodup_iff_pairwise_ne.mp nd)
    rw [List.pairwise_map] at this
    refine this.imp fun {a b} h x hx y hy e => ?_
    obtain ⟨s, _, rfl⟩ := List.mem_map.mp hx
    obtain ⟨t, _, rfl⟩ := List.mem_map.mp hy
    exact h (Prod.mk.inj e).1
theorem ks_step {rows : List Row} {many i j : Nat} {q : Row} {ss : List Nat} (hq : rows[i]? = some q) (hs : (wq many q)[j]? = some ss) : ∃ r, ksOf (rows.take i) many ++ ((wq many q).take j).map (fun s => (q.1, s)) ++ (q.1, ss) :: r = ksOf rows many := by
  have e1 : rows = rows.take i ++ q :: rows.drop (i + 1) := by
    have hi := (List.getElem?_eq_some_iff.mp hq).1
    have he : rows[i] = q := by rw [List.getElem?_eq_getElem hi] at hq; exact Option.some.inj hq
    rw [← he, List.getElem_cons_drop, List.take_append_drop]
  have e2 : wq many q = (wq many q).take j ++ ss :: (wq many q).drop (j + 1) := by
    have hi := (List.getElem?_eq_some_iff.mp hs).1
    have he : (wq many q)[j] = ss := by rw [List.getElem?_eq_getElem hi] at hs; exact Option.some.inj hs
    rw [← he, List.getElem_cons_drop, List.take_append_drop]
  refine ⟨((wq many q).drop (j + 1)).map (fun s => (q.1, s)) ++ ksOf (rows.drop (i + 1)) many, ?_⟩
  have e3 : ksOf rows many = ksOf (rows.take i) many ++ ((wq many q).map (fun s => (q.1, s)) ++ ksOf (rows.drop (i + 1)) many) := by
    conv => lhs; rw [e1]
    unfold ksOf
    rw [List.flatMap_append, List.flatMap_cons]
  rw [e3]
  conv => rhs; rw [e2]
  rw [List.map_append, List.map_cons]
  simp only [List.append_assoc, List.cons_append]
theorem ks_len {rows : List Row} {many : Nat} (h : many ≤ 3) (R : ROk 4 rows) : (ksOf rows many).length ≤ 108 := by
  have hw := R.wd
  have : ∀ l : List Row, (∀ q ∈ l, 0 ≤ q.2 ∧ q.2 ≤ 3) → (ksOf l many).length ≤ 27 * l.length := fun l => by
    induction l with
    | nil => intro _; exact Nat.le_refl _
    | cons q l ih =>
      intro hl
      unfold ksOf at ih ⊢
      rw [List.flatMap_cons, List.length_append, List.length_map, List.length_cons]
      have := ih fun q hq => hl q (List.mem_cons_of_mem _ hq)
      have := wq_len (q := q) h (hl q List.mem_cons_self).2
      omega
  have h1 := this rows hw
  have h2 := R.len
  omega
theorem rkv_none {es : List REnt} {p : Str × List Nat} (h : p ∉ es.map ek) : valV (es.map rkv) (nkR p) = none := by
  unfold valV
  rw [Option.map_eq_none_iff, List.find?_eq_none]
  intro x hx e
  obtain ⟨y, hy, rfl⟩ := List.mem_map.mp hx
  have e := of_decide_eq_true e
  exact h (List.mem_map.mpr ⟨y, hy, nkR_inj e⟩)
theorem rkv_some {es : List REnt} {e : REnt} (nd : (es.map ek).Nodup) (h : e ∈ es) : valV (es.map rkv) (nkR (ek e)) = some (.int ((e.2.2 : Nat) : Int)) := by
  induction es with
  | nil => cases h
  | cons y es ih =>
    rw [List.map_cons] at nd
    obtain ⟨n1, n2⟩ := List.nodup_cons.mp nd
    rw [List.map_cons]
    rcases List.mem_cons.mp h with rfl | h
    · exact valV_pos rfl
    · rw [valV_neg (fun q => n1 (List.mem_map.mpr ⟨e, h, (nkR_inj q).symm⟩))]
      exact ih n2 h
def RwAt (H : Hp) (us : List Addr) (rs : List REnt) : Prop := us.length = rs.length ∧ ∀ (i : Nat) (u : Addr) (e : REnt), us[i]? = some u → rs[i]? = some e → ∃ b, H u = some (.tup [.str e.1, .ref b, .int ((e.2.2 : Nat) : Int)]) ∧ H b = some (.tup (nI e.2.1))
theorem RwAt.keep {H H' : Hp} {us : List Addr} {rs : List REnt} (x : RwAt H us rs) (k : ∀ t ys, H t = some (.tup ys) → H' t = some (.tup ys)) : RwAt H' us rs := ⟨x.1, fun i u e h1 h2 => by
  obtain ⟨b, h3, h4⟩ := x.2 i u e h1 h2
  exact ⟨b, k _ _ h3, k _ _ h4⟩⟩
theorem RwAt.nil {H : Hp} : RwAt H [] [] := ⟨rfl, fun i u e h => by simp at h⟩
theorem RwAt.snoc {H : Hp} {us : List Addr} {rs : List REnt} {u b : Addr} {e : REnt} (x : RwAt H us rs) (h1 : H u = some (.tup [.str e.1, .ref b, .int ((e.2.2 : Nat) : Int)])) (h2 : H b = some (.tup (nI e.2.1))) : RwAt H (us ++ [u]) (rs ++ [e]) := by
  refine ⟨by rw [List.length_append, List.length_append, x.1]; rfl, fun i y z a c => ?_⟩
  by_cases hi : i < us.length
  · rw [List.getElem?_append_left hi] at a
    rw [List.getElem?_append_left (by rw [← x.1]; exact hi)] at c
    exact x.2 i y z a c
  · have hl := (List.getElem?_eq_some_iff.mp a).1
    rw [List.length_append] at hl
    have : ([u] : List Addr).length = 1 := rfl
    have ei : i = us.length := by omega
    subst ei
    rw [List.getElem?_append_right (Nat.le_refl _), Nat.sub_self] at a
    rw [List.getElem?_append_right (by rw [x.1]; exact Nat.le_refl _), x.1, Nat.sub_self] at c
    cases a
    cases c
    exact ⟨b, h1, h2⟩
theorem RwAt.reverse {H : Hp} {us : List Addr} {rs : List REnt} (x : RwAt H us rs) : RwAt H us.reverse rs.reverse := by
  refine ⟨by rw [List.length_reverse, List.length_reverse, x.1], fun i u e a b => ?_⟩
  have hi := (List.getElem?_eq_some_iff.mp a).1
  rw [List.length_reverse] at hi
  rw [List.getElem?_reverse hi] at a
  rw [List.getElem?_reverse (by rw [← x.1]; exact hi), ← x.1] at b
  exact x.2 _ u e a b
/-- a reader, drawn -/
structure RdD where
  many : Nat
  rest : Nat
  ent : List REnt
  rws : List REnt
  marks : List Nat
structure RdD.Ok (D : RdD) (rows : List Row) : Prop where
  m1 : 1 ≤ D.many
  m3 : D.many ≤ 3
  re : D.rest < D.many
  ks : D.ent.map ek = ksOf rows D.many
  lt : ∀ e ∈ D.ent, e.2.2 < D.many
  sub : ∀ e ∈ D.rws, e ∈ D.ent
  all : ∀ e ∈ D.ent, e ∈ D.rws ∨ e.2.2 = D.rest
  nd : (D.rws.map ek).Nodup
  rl : D.rws.length ≤ 108
  mks : D.marks.Pairwise (· < ·)
  ml : ∀ m ∈ D.marks, m < D.many
/-- the list that the law keeps of it -/
def LrAt (P : Program) (w : World) (H : Hp) (a : Addr) (D : RdD) : Prop := ∃ (t m r : Addr) (us : List Addr), H a = some (.lst [.int ((D.many : Nat) : Int), .ref t, .ref m, .ref r, .int ((D.rest : Nat) : Int)]) ∧ NdAt P w H t (D.ent.map rkv) ∧ H m = some (.lst (nI D.marks)) ∧ H r = some (.lst (us.map V.ref)) ∧ RwAt H us D.rws
def pR (rest : Nat) (w2 : Bool) (e : REnt) : Bool := decide (e.2.2 ≠ rest) || w2
structure RIn (P : Program) (w : World) (x T R many rest : Nat) (w2 : Bool) (keys : List (Str × List Nat)) (es : List REnt) (us : List Addr) (H H' : Hp) : Prop where
  k : Kp x H H'
  b : BxAt H' x
  t : NdAt P w H' T (es.map rkv)
  ks : es.map ek = keys
  lt : ∀ e ∈ es, e.2.2 < many
  r : H' R = some (.lst (us.map V.ref))
  rw : RwAt H' us (es.filter (pR rest w2))
theorem BxAt.tkN {H H' : Hp} {x : Addr} (b : BxAt H x) (k : Kp x H H') : ∀ t ys, H t = some (.tup ys) → H' t = some (.tup ys) := fun t ys h => k _ _ h fun e => by
  obtain ⟨y, z, hb⟩ := b
  rw [e, hb] at h
  cases h
theorem _root_.L2.NdAt.ne_lst {P : Program} {w : World} {H : Hp} {a b : Addr} {kvs : List (NKey × V)} {ys : List V} (x : NdAt P w H a kvs) (h : H b = some (.lst ys)) : a ≠ b := fun e => by
  obtain ⟨_, _, xs, _, hx⟩ := x
  rw [e, h] at hx
  cases hx
theorem _root_.L2.NdAt.ne_tup {P : Program} {w : World} {H : Hp} {a b : Addr} {kvs : List (NKey × V)} {ys : List V} (x : NdAt P w H a kvs) (h : H b = some (.tup ys)) : b ≠ a := fun e => by
  obtain ⟨_, _, xs, _, hx⟩ := x
  rw [← e, h] at hx
  cases hx
theorem _root_.L2.NdAt.ne_new {P : Program} {w : World} {H : Hp} {a b : Addr} {kvs : List (NKey × V)} (x : NdAt P w H a kvs) (h : H b = none) : a ≠ b := fun e => by
  obtain ⟨_, _, xs, _, hx⟩ := x
  rw [e, h] at hx
  cases hx
theorem _root_.L2.NdAt.kx {P : Program} {w : World} {H H' : Hp} {a x : Addr} {kvs : List (NKey × V)} (h : NdAt P w H a kvs) (b : BxAt H x) (k : Kp x H H') : NdAt P w H' a kvs := by
  obtain ⟨xs, _, hb⟩ := id b
  have ne := h.ne_lst hb
  refine h.keeps (b.tkN k) ?_
  obtain ⟨_, _, zs, _, hz⟩ := h
  rw [hz, k _ _ hz ne]
theorem _root_.L2.NdAt.upd_l {P : Program} {w : World} {H : Hp} {a l : Addr} {kvs : List (NKey × V)} {ys : List V} {o : HO} (h : NdAt P w H a kvs) (hl : H l = some (.lst ys)) : NdAt P w (upd H l o) a kvs :=
  h.keeps (fun t zs q => by rw [L2.upd_ne (ne_of q hl (fun e => nomatch e))]; exact q) (L2.upd_ne (h.ne_lst hl))
theorem _root_.L2.NdAt.sm {P : Program} {w : World} {H H' : Hp} {a : Addr} {kvs : List (NKey × V)} (h : NdAt P w H a kvs) (s : Same H H') : NdAt P w H' a kvs := by
  refine h.keeps (fun t zs q => s _ _ q) ?_
  obtain ⟨_, _, zs, _, hz⟩ := h
  rw [hz, s _ _ hz]
theorem Kp.but {x T : Addr} {H H1 H2 : Hp} (k : Kp x H H1) (hT : H T = none) (h : ∀ c, c ≠ T → H2 c = H1 c) : Kp x H H2 := fun b o hb hn => by
  rw [h b (fun e => by rw [e, hT] at hb; cases hb)]
  exact k b o hb hn
def spReader52 (P : Program) (w : World) : Sp := fun vs H Q _ => ∃ (x r : Addr) (rows : List Row), vs = [.ref x, .ref r, .int 3] ∧ BxAt H x ∧ RowsAt H r rows ∧ ROk 4 rows ∧ ∀ (H' : Hp) (a : Addr) (D : RdD), Kp x H H' → D.Ok rows → LrAt P w H' a D → Q (.ref a) H'
end Sh
end
section
set_option Elab.async false
set_option linter.all false
set_option maxRecDepth 100000
set_option maxHeartbeats 8000000
namespace Sh
open PySem PySem.Spec PyProof.Rows L2
open C8 (pss_cut tCut)
open Evl (ixN_nat)
theorem vne (a b : Nat) : (!decide (V.int ((a : Nat) : Int) = V.int ((b : Nat) : Int))) = decide (a ≠ b) := by
  by_cases h : a = b
  · subst h
    simp
  · have : ¬ V.int ((a : Nat) : Int) = V.int ((b : Nat) : Int) := fun e => by
      injection e with e
      omega
    simp [h, this]
theorem veq (a b : Int) : decide (V.int a = V.int b) = decide (a = b) := by
  by_cases h : a = b
  · subst h
    simp
  · have : ¬ V.int a = V.int b := fun e => by
      injection e with e
      exact h e
    simp [h, this]
theorem flat_nI (w : List Nat) : (nI w).all flatV = true := by
  unfold nI
  rw [List.all_map]
  exact List.all_eq_true.mpr fun _ _ => rfl
theorem RIn.draw {P : Program} {w : World} {x T R many rest : Nat} {w2 : Bool} {keys : List (Str × List Nat)} {es : List REnt} {us : List Addr} {H H1 H2 : Hp} (h : RIn P w x T R many rest w2 keys es us H H1) (k : Kp x H1 H2) (b : BxAt H2 x) (hR : R ≠ x) : RIn P w x T R many rest w2 keys es us H H2 :=
  ⟨h.k.trans k, b, h.t.kx h.b k, h.ks, h.lt, k _ _ h.r hR, h.rw.keep (h.b.tkN k)⟩
theorem RIn.sm {P : Program} {w : World} {x T R many rest : Nat} {w2 : Bool} {keys : List (Str × List Nat)} {es : List REnt} {us : List Addr} {H H1 H2 : Hp} (h : RIn P w x T R many rest w2 keys es us H H1) (s : Same H1 H2) : RIn P w x T R many rest w2 keys es us H H2 :=
  ⟨h.k.trans (Kp.same s), h.b.same s, h.t.sm s, h.ks, h.lt, s _ _ h.r, h.rw.keep fun _ _ q => s _ _ q⟩
abbrev N_law_reader : List Str := ["box", "kinds", "most", "many", "rest", "way", "table", "rows", "pair", "below", "state", "choice", "marks", "bit"]
theorem sc_law_reader : FnScope N_law_reader ["box", "kinds", "most"] (defScope s_law_reader) := ⟨rfl, rfl, rfl, by decide +kernel, rfl, by decide +kernel, by decide +kernel⟩
section
variable {P : Program} {w : World} {K : PySem.W.Frag} {mg : Str → Option Value} {base : Heap}
theorem ok_reader52 (T : Bp mg) (c_law_pick : DefOk P w K mg base CX0 1 "_law_pick" spPick51) (c_law_tuples : DefOk P w K mg base CX0 1 "_law_tuples" spTuples52) (D : Def0 K mg "_law_reader" s_law_reader) : DefOk P w K mg base CX0 2 "_law_reader" (spReader52 P w) := by
  have b_reversed := T.b_reversed
  refine D.ok sc_law_reader (fun vs H Q E h => ?_) (fun _ _ _ _ _ _ us hl => match us, hl with | [_, _, _], _ => rfl) (fun f cdv A outer s' H vs Q E hr h => ?_)
  · obtain ⟨x, r, rows, rfl, _⟩ := h
    rfl
  · obtain ⟨x, r, rows, rfl, hx, hR, Ro, key⟩ := h
    have hu2 := hu2_of hr
    have hwd := Ro.wd
    obtain ⟨ts, hr0, hT⟩ := hR
    have lts : (ts.map V.ref).length = rows.length := by rw [List.length_map, hT.1]
    refine ⟨_, (pss_cons (ps_set (i := 3) sc_law_reader.nd rfl (Or.inl rfl) (pe_op op_add pe_int (pe_d c_law_pick (hr.mono (by decide)) pass0 (pa_cons (pv 0) (pa_cons (pv 2) pa_nil)))))
      (pss_cons (ps_set (i := 4) sc_law_reader.nd rfl (Or.inl rfl) (pe_d c_law_pick (hr.mono (by decide)) pass0 (pa_cons (pv 0) (pa_cons (pv 3) pa_nil))))
      (pss_cons (ps_set (i := 5) sc_law_reader.nd rfl (Or.inl rfl) (pe_d c_law_pick (hr.mono (by decide)) pass0 (pa_cons (pv 0) (pa_cons pe_int pa_nil))))
      (pss_cons (ps_set (i := 6) sc_law_reader.nd rfl (Or.inl rfl) (show PE _ _ (tNNew P w) from pe_dnewN))
      (pss_cons (ps_set (i := 7) sc_law_reader.nd rfl (Or.inl rfl) (pe_lst pa_nil))
      (pss_cons (ps_for PassesOwn.never rfl (pi_list (pv 1)) (pg_name (i := 8) sc_law_reader.nd rfl (Or.inl rfl))
        (pss_one (ps_for PassesOwn.never rfl (pi_list (pe_d c_law_tuples (hr.mono (by decide)) pass0 (pa_cons (pv 3) (pa_cons (pe_ix ix_tup (pv 8) pe_int (fun _ _ => rfl)) pa_nil)))) (pg_name (i := 9) sc_law_reader.nd rfl (Or.inl rfl))
          (pss_cons (ps_set (i := 10) sc_law_reader.nd rfl (Or.inl rfl) (pe_d c_law_pick (hr.mono (by decide)) pass0 (pa_cons (pv 0) (pa_cons (pv 3) pa_nil))))
          (pss_cut (ps_if (PW.pt (pw_and (pt_cmpR op_eq (pv 5) pe_int (nomark _)) (pw_and1 (pt_cmpR op_in_seq pe_int (pv 9) (by rfl)))))
            (pss_one (ps_set (i := 10) sc_law_reader.nd rfl (Or.inl rfl) pe_int))
            pss_nil)
          (pss_cons (ps_nput hu2 (pv 6) (pe_tup (pa_cons (pe_ix ix_tup (pv 8) pe_int (fun _ _ => rfl)) (pa_cons (pv 9) pa_nil))) (pv 10) rfl)
          (pss_one (ps_if (PW.pt (pw_or (pt_cmpR op_ne (pv 10) (pv 4) (nomark _)) (pw_or1 (pt_cmpR op_eq (pv 5) pe_int (nomark _)))))
            (pss_one (ps_expr (pe_bm PySem.F.plainAttrs_list PySem.F.slot_list_append PySem.F.type_list_append mt_append (pv 7) (pa_cons (pe_tup (pa_cons (pe_ix ix_tup (pv 8) pe_int (fun _ _ => rfl)) (pa_cons (pv 9) (pa_cons (pv 10) pa_nil)))) pa_nil))))
            pss_nil))))))))
      (pss_cons (ps_set (i := 11) sc_law_reader.nd rfl (Or.inl rfl) (pe_d c_law_pick (hr.mono (by decide)) pass0 (pa_cons (pv 0) (pa_cons pe_int pa_nil))))
      (pss_cons (ps_set (i := 12) sc_law_reader.nd rfl (Or.inl rfl) (pe_lst pa_nil))
      (pss_cons (ps_for PassesOwn.never rfl (pi_range1 (by rfl) T.b_range (pa_cons (pv 3) pa_nil)) (pg_name (i := 10) sc_law_reader.nd rfl (Or.inl rfl))
        (pss_cons (ps_set (i := 13) sc_law_reader.nd rfl (Or.inl rfl) (pe_d c_law_pick (hr.mono (by decide)) pass0 (pa_cons (pv 0) (pa_cons pe_int pa_nil))))
        (pss_one (ps_if (PW.pt (pw_or (pt_cmpR op_eq (pv 11) pe_int (nomark _)) (pw_or1 (PW.pt (pw_and (pt_cmpR op_gt (pv 11) pe_int (nomark _)) (pw_and1 (pt_cmpR op_eq (pv 13) pe_int (nomark _))))))))
          (pss_one (ps_expr (pe_bm PySem.F.plainAttrs_list PySem.F.slot_list_append PySem.F.type_list_append mt_append (pv 12) (pa_cons (pv 10) pa_nil))))
          pss_nil))))
      (pss_cut (ps_if (PW.pt (pw_and (pt_cmpR op_eq (pe_callB call_len_seq (by rfl) T.b_len boot_len (pa_cons (pv 12) pa_nil)) pe_int (nomark _)) (pw_and1 (pt_cmpR op_gt (pv 11) pe_int (nomark _)))))
        (pss_one (ps_expr (pe_bm PySem.F.plainAttrs_list PySem.F.slot_list_append PySem.F.type_list_append mt_append (pv 12) (pa_cons (pe_d c_law_pick (hr.mono (by decide)) pass0 (pa_cons (pv 0) (pa_cons (pv 3) pa_nil))) pa_nil))))
        pss_nil)
      (pss_cut (ps_if (pt_cmpR op_eq (pv 5) pe_int (nomark _))
        (pss_one (ps_set (i := 7) sc_law_reader.nd rfl (Or.inl rfl) (RT.pe_listRev rfl (by rfl) T.b_list (by rfl) b_reversed (pv 7))))
        pss_nil)
      (pss_one (ps_ret (pe_lst (pa_cons (pv 3) (pa_cons (pv 6) (pa_cons (pv 12) (pa_cons (pv 7) (pa_cons (pv 4) pa_nil))))))))))))))))))), ?_⟩
    refine ⟨_, rfl, _, rfl, x, 3, rfl, hx, by decide, by decide, fun H1 n1 k1 b1 n10 n11 => ⟨_, _, rfl, rfl, ?_⟩⟩
    obtain ⟨n, rfl⟩ : ∃ n : Nat, n1 = (n : Nat) := ⟨n1.toNat, by omega⟩
    show gName 3 (V.int (1 + ((n : Nat) : Int))) _ _ _
    rw [show (1 : Int) + ((n : Nat) : Int) = ((1 + n : Nat) : Int) by omega]
    have mm1 : 1 ≤ 1 + n := by omega
    have mm3 : 1 + n ≤ 3 := by omega
    generalize 1 + n = many at mm1 mm3
    refine ⟨_, rfl, _, rfl, x, many, rfl, b1, by omega, by omega, fun H2 re1 k2 b2 re0 re1' => ?_⟩
    obtain ⟨rest, rfl⟩ : ∃ n : Nat, re1 = (n : Nat) := ⟨re1.toNat, by omega⟩
    have hre : rest < many := by omega
    refine ⟨_, rfl, x, 4, rfl, b2, by decide, by decide, fun H3 way k3 b3 _ _ => ?_⟩
    have k03 := (k1.trans k2).trans k3
    intro Tb hTb nd
    have hTx : Tb ≠ x := b3.ne hTb
    have hT0 : H Tb = none := k03.free_of hTb hTx
    have s4 := (Same.refl H3).upd_new (o := NdO P w Tb []) hTb
    generalize upd H3 Tb (NdO P w Tb []) = H4 at s4 nd
    refine ⟨le_line (show 0 ≤ 10000000 by decide), fun R hR => ?_⟩
    have s5 := s4.upd_new (o := .lst []) hR
    have b4 := b3.same s4
    have hRx : R ≠ x := b4.ne hR
    have k04 := k03.trans (Kp.same s4)
    have hR0 : H R = none := k04.free_of hR hRx
    have hTR : Tb ≠ R := nd.ne_new hR
    have R5 : (upd H4 R (.lst [])) R = some (.lst (([] : List Addr).map V.ref)) := upd_same
    have nd5 := nd.sm ((Same.refl H4).upd_new (o := .lst []) hR)
    have kR5 : Kp x H (upd H4 R (.lst [])) := k03.trans (Kp.same s5)
    have bR5 := b3.same s5
    generalize upd H4 R (.lst []) = H5 at R5 nd5 kR5 bR5
    have nrx := hx.nref hr0
    have nTs := fun {H' : Hp} (k : Kp x H H') => hT.keep (hx.tk k)
    refine ⟨_, rfl, r, rfl, ⟨_, SqL.of (kR5 _ _ hr0 nrx)⟩, for_list (xs := ts.map V.ref) (fun i σ H' => ∃ (x8 x9 x10 : Option V) (es : List REnt) (us : List Addr), σ = [some (.ref x), some (.ref r), some (.int 3), some (.int (many : Nat)), some (.int (rest : Nat)), some (.int way), some (.ref Tb), some (.ref R), x8, x9, x10, none, none, none] ∧ RIn P w x Tb R many rest (decide (way = 2)) (ksOf (rows.take i) many) es us H H')
      ⟨none, none, none, [], [], rfl, kR5, bR5, nd5, rfl, fun e he => (nomatch he), R5, .nil⟩ (fun i σ H' _ ⟨_, _, _, _, _, _, h⟩ => SqL.of (h.k _ _ hr0 nrx)) ?_ ?_⟩
    · rintro i v σ H6 hv ⟨x8, x9, x10, es, us, rfl, I6⟩
      obtain ⟨t, ht, rfl⟩ := get_map_r hv
      have hil : i < rows.length := by rw [← hT.1]; exact (List.getElem?_eq_some_iff.mp ht).1
      have hq := List.getElem?_eq_getElem hil
      have hqw := hwd _ (List.getElem_mem hil)
      generalize rows[i] = q at hq hqw
      have ht6 := (nTs I6.k).2 i t q ht hq
      have eq2 : q.2 = ((q.2.toNat : Nat) : Int) := by omega
      refine ⟨_, rfl, _, rfl, t, _, _, _, rfl, rfl, SqT.of ht6, atI_nat (j := 1) rfl, many, q.2.toNat, by show [V.int _, V.int q.2] = _; rw [← eq2], mm3, by omega, fun H7 L s7 nL WL => ?_⟩
      obtain ⟨us2, hL, PL⟩ := WL
      have PL : PlAt nI H7 us2 (wq many q) := PL
      have I7 := I6.sm s7
      have lus2 : (us2.map V.ref).length = (wq many q).length := by rw [List.length_map, PL.1]
      have lwq := wq_len (q := q) mm3 hqw.2
      have hLx := I7.b.nref hL
      refine ⟨L, rfl, ⟨_, SqL.of hL⟩, for_list (xs := us2.map V.ref) (fun j σ H' => ∃ (x9 x10 : Option V) (es : List REnt) (us : List Addr), σ = [some (.ref x), some (.ref r), some (.int 3), some (.int (many : Nat)), some (.int (rest : Nat)), some (.int way), some (.ref Tb), some (.ref R), some (.ref t), x9, x10, none, none, none] ∧ RIn P w x Tb R many rest (decide (way = 2)) (ksOf (rows.take i) many ++ ((wq many q).take j).map (fun s => (q.1, s))) es us H H' ∧ H' L = some (.lst (us2.map V.ref)) ∧ PlAt nI H' us2 (wq many q) ∧ R ≠ L)
        ⟨x9, x10, es, us, rfl, by rw [List.take_zero, List.map_nil, List.append_nil]; exact I7, hL, PL, ne_of_none I6.r nL⟩ (fun i σ H' _ ⟨_, _, _, _, _, _, h, _⟩ => SqL.of h) ?_ ?_⟩
      · rintro j v σ H8 hv ⟨x9, x10, es, us, rfl, I8, L8, P8, nRL⟩
        obtain ⟨u, hu, rfl⟩ := get_map_r hv
        have hjl : j < (wq many q).length := by rw [← P8.1]; exact (List.getElem?_eq_some_iff.mp hu).1
        have hs := List.getElem?_eq_getElem hjl
        generalize (wq many q)[j] = ss at hs
        have hu8 := P8.2 j u ss hu hs
        refine ⟨_, rfl, _, rfl, x, many, rfl, I8.b, by omega, by omega, fun H9 s1 k9 b9 s10 s11 => ?_⟩
        obtain ⟨s0, rfl⟩ : ∃ n : Nat, s1 = (n : Nat) := ⟨s1.toNat, by omega⟩
        have I9 := I8.draw k9 b9 hRx
        have L9 := k9 _ _ L8 hLx
        have P9 := P8.keep (I8.b.tk k9)
        have hu9 := P9.2 j u ss hu hs
        refine ⟨fun σ H' => H' = H9 ∧ ∃ s : Nat, s < many ∧ σ = [some (.ref x), some (.ref r), some (.int 3), some (.int (many : Nat)), some (.int (rest : Nat)), some (.int way), some (.ref Tb), some (.ref R), some (.ref t), some (.ref u), some (.int (s : Nat)), none, none, none], ?_, ?_⟩
        · refine ⟨_, rfl, rfl, _, rfl, ite2 (fun _ => ⟨_, rfl, u, _, rfl, .inr (SqT.of hu9), rfl, flat_nI ss, _, rfl, ite2 (fun _ => ⟨rfl, 0, by omega, rfl⟩) (fun _ => ⟨rfl, s0, by omega, rfl⟩)⟩) (fun _ => ifn (by decide) ⟨rfl, s0, by omega, rfl⟩)⟩
        rintro σ H10 ⟨rfl, s, hsm, rfl⟩
        have ht9 := (nTs I9.k).2 i t q ht hq
        refine ⟨_, rfl, _, rfl, _, rfl, t, _, _, _, rfl, rfl, SqT.of ht9, atI_nat (j := 0) rfl, _, rfl, le_line (show 2 ≤ 10000000 by decide), fun p hp => ?_⟩
        have s11 := (Same.refl H10).upd_new (o := .tup [.str q.1, .ref u]) hp
        have p11 : (upd H10 p (.tup [.str q.1, .ref u])) p = some (.tup [.str q.1, .ref u]) := upd_same
        generalize upd H10 p (.tup [.str q.1, .ref u]) = H11 at s11 p11
        have I11 := I9.sm s11
        have L11 := s11 _ _ L9
        have P11 := P9.keep fun t ys h => s11 _ _ h
        have hu11 := s11 _ _ hu9
        have ht11 := s11 _ _ ht9
        obtain ⟨rst, hrst⟩ := ks_step hq hs
        have fresh : ((q.1, ss) : Str × List Nat) ∉ es.map ek := by
          have nd := ks_nd (many := many) Ro.nd
          rw [← hrst, ← I9.ks] at nd
          rw [List.nodup_append] at nd
          intro hm
          exact nd.2.2 _ hm _ List.mem_cons_self rfl
        have les : es.length ≤ 108 := by
          have h1 := ks_len mm3 Ro
          rw [← hrst, ← I9.ks, List.length_append, List.length_map] at h1
          omega
        refine ⟨Tb, p, es.map rkv, nkR (q.1, ss), rfl, rfl, I11.t, ⟨u, p11, by rw [hu11, nI_key]; rfl⟩, rkv_none fresh, by rw [List.length_map]; exact lt_line (by omega), fun H12 oth nd12 => ?_⟩
        have t12 : ∀ t ys, H11 t = some (.tup ys) → H12 t = some (.tup ys) := fun t ys h => by rw [oth t (I11.t.ne_tup h)]; exact h
        have l12 : ∀ {l : Addr} {ys : List V}, H11 l = some (.lst ys) → H12 l = some (.lst ys) := fun {l} {ys} h => by rw [oth l (I11.t.ne_lst h).symm]; exact h
        have k12 : Kp x H H12 := I11.k.but hT0 oth
        have b12 : BxAt H12 x := by
          obtain ⟨a, b, h⟩ := I11.b
          exact ⟨a, b, l12 h⟩
        have nd12 : NdAt P w H12 Tb ((es ++ [(q.1, ss, s)]).map rkv) := by
          rw [List.map_append]
          exact nd12
        have ks12 : (es ++ [(q.1, ss, s)]).map ek = ksOf (rows.take i) many ++ ((wq many q).take (j + 1)).map (fun s => (q.1, s)) := by
          rw [List.map_append, I9.ks, List.take_add_one, hs, List.map_append, List.append_assoc]
          rfl
        have lt12 : ∀ e ∈ es ++ [((q.1, ss, s) : REnt)], e.2.2 < many := fun e he => by
          rcases List.mem_append.mp he with h | h
          · exact I9.lt e h
          · rw [List.mem_singleton.mp h]; exact hsm
        have R12 := l12 I11.r
        have rw12 := I11.rw.keep t12
        have L12 := l12 L11
        have P12 := P11.keep t12
        have skip : pR rest (decide (way = 2)) ((q.1, ss, s) : REnt) = false → RIn P w x Tb R many rest (decide (way = 2)) (ksOf (rows.take i) many ++ ((wq many q).take (j + 1)).map (fun s => (q.1, s))) (es ++ [(q.1, ss, s)]) us H H12 := fun hp => ⟨k12, b12, nd12, ks12, lt12, R12, by
          rw [List.filter_append, List.filter_cons_of_neg (by rw [hp]; decide)]
          show RwAt _ _ (_ ++ [])
          rw [List.append_nil]
          exact rw12⟩
        have app : ∀ {v : Addr}, H12 v = none → pR rest (decide (way = 2)) ((q.1, ss, s) : REnt) = true → RIn P w x Tb R many rest (decide (way = 2)) (ksOf (rows.take i) many ++ ((wq many q).take (j + 1)).map (fun s => (q.1, s))) (es ++ [(q.1, ss, s)]) (us ++ [v]) H (upd (upd H12 v (.tup [.str q.1, .ref u, .int ((s : Nat) : Int)])) R (.lst (us.map V.ref ++ [V.ref v]))) := fun {v} hv hp => by
          have s13 := (Same.refl H12).upd_new (o := .tup [.str q.1, .ref u, .int ((s : Nat) : Int)]) hv
          have v13 : (upd H12 v (.tup [.str q.1, .ref u, .int ((s : Nat) : Int)])) v = some (.tup [.str q.1, .ref u, .int ((s : Nat) : Int)]) := upd_same
          generalize upd H12 v (.tup [.str q.1, .ref u, .int ((s : Nat) : Int)]) = H13 at s13 v13
          have R13 := s13 _ _ R12
          have kt : ∀ t ys, H13 t = some (.tup ys) → (upd H13 R (.lst (us.map V.ref ++ [V.ref v]))) t = some (.tup ys) := fun t ys h => by rw [upd_ne (ne_of h R13 (fun e => nomatch e))]; exact h
          refine ⟨(k12.trans (Kp.same s13)).upd_own hR0, (b12.same s13).upd_ne hRx, (nd12.sm s13).upd_l R13, ks12, lt12, by rw [upd_same, List.map_append]; rfl, ?_⟩
          rw [List.filter_append, List.filter_cons_of_pos hp]
          exact ((rw12.keep fun t ys h => s13 _ _ h).keep kt).snoc (kt _ _ v13) (kt _ _ (s13 _ _ (t12 _ _ hu11)))
        have lus : us.length ≤ 108 := by
          rw [I11.rw.1]
          exact Nat.le_trans (List.length_filter_le _ _) les
        refine ⟨_, rfl, _, rfl, rfl, _, rfl, ite2 (fun c => ifp rfl ?_) (fun c => ⟨_, rfl, rfl, _, rfl, ite2 (fun c2 => ?_) (fun c2 => ?_)⟩)⟩
        · have hp : pR rest (decide (way = 2)) ((q.1, ss, s) : REnt) = true := by
            rw [vne] at c
            unfold pR
            show (decide (s ≠ rest) || _) = true
            rw [c]
            rfl
          refine ⟨_, rfl, .inl ⟨rfl, _, SqL.of R12⟩, _, rfl, t, _, _, _, rfl, rfl, SqT.of (t12 _ _ ht11), atI_nat (j := 0) rfl, _, rfl, _, rfl, le_line (show 3 ≤ 10000000 by decide), fun v hv => ?_⟩
          have nvR : R ≠ v := ne_of_none R12 hv
          refine ⟨R, _, _, rfl, rfl, by rw [upd_ne nvR]; exact R12, by rw [List.length_map]; exact lt_line (by omega), ?_⟩
          exact ⟨_, _, _, _, rfl, app hv hp, by rw [upd_ne nRL.symm, upd_ne (ne_of_none L12 hv)]; exact L12, P12.keep fun t ys h => by rw [upd_ne (ne_of h R12 (fun e => nomatch e)), upd_ne (ne_of_none h hv)]; exact h, nRL⟩
        · have hp : pR rest (decide (way = 2)) ((q.1, ss, s) : REnt) = true := by
            rw [veq] at c2
            unfold pR
            rw [c2, Bool.or_true]
          refine ⟨_, rfl, .inl ⟨rfl, _, SqL.of R12⟩, _, rfl, t, _, _, _, rfl, rfl, SqT.of (t12 _ _ ht11), atI_nat (j := 0) rfl, _, rfl, _, rfl, le_line (show 3 ≤ 10000000 by decide), fun v hv => ?_⟩
          have nvR : R ≠ v := ne_of_none R12 hv
          refine ⟨R, _, _, rfl, rfl, by rw [upd_ne nvR]; exact R12, by rw [List.length_map]; exact lt_line (by omega), ?_⟩
          exact ⟨_, _, _, _, rfl, app hv hp, by rw [upd_ne nRL.symm, upd_ne (ne_of_none L12 hv)]; exact L12, P12.keep fun t ys h => by rw [upd_ne (ne_of h R12 (fun e => nomatch e)), upd_ne (ne_of_none h hv)]; exact h, nRL⟩
        · have hp : pR rest (decide (way = 2)) ((q.1, ss, s) : REnt) = false := by
            rw [vne] at c
            rw [veq] at c2
            unfold pR
            show (decide (s ≠ rest) || _) = false
            rw [Bool.eq_false_iff.mpr c, Bool.eq_false_iff.mpr c2]
            rfl
          exact ⟨_, _, _, us, rfl, skip hp, L12, P12, nRL⟩
      · rintro σ H8 ⟨x9, x10, es, us, rfl, I8, L8, P8, _⟩
        refine ⟨_, _, _, es, us, rfl, ?_⟩
        rw [lus2, List.take_length] at I8
        have e : ksOf (rows.take (i + 1)) many = ksOf (rows.take i) many ++ (wq many q).map (fun s => (q.1, s)) := by
          unfold ksOf
          rw [List.take_add_one, hq, List.flatMap_append]
          show _ ++ (_ ++ []) = _
          rw [List.append_nil]
        rw [e]
        exact I8
    · rintro σ H6 ⟨x8, x9, x10, es, us, rfl, I6⟩
      rw [lts, List.take_length] at I6
      refine ⟨_, rfl, x, 8, rfl, I6.b, by decide, by decide, fun H7 ch k7 b7 _ _ => ?_⟩
      have I7 := I6.draw k7 b7 hRx
      refine ⟨le_line (show 0 ≤ 10000000 by decide), fun M hM => ?_⟩
      have s8 := (Same.refl H7).upd_new (o := .lst []) hM
      have M8 : (upd H7 M (.lst [])) M = some (.lst (nI [])) := upd_same
      have nMx : M ≠ x := I7.b.ne hM
      have hM0 : H M = none := I7.k.free_of hM nMx
      have nRM : R ≠ M := ne_of_none I7.r hM
      have I8 := I7.sm s8
      generalize upd H7 M (.lst []) = H8 at s8 M8 I8
      refine ⟨_, rfl, _, rfl, by omega, by omega, ?_⟩
      rw [Int.toNat_natCast]
      refine for_range (n := many) (fun i σ H' => ∃ (x10 x13 : Option V) (ms : List Nat), σ = [some (.ref x), some (.ref r), some (.int 3), some (.int (many : Nat)), some (.int (rest : Nat)), some (.int way), some (.ref Tb), some (.ref R), x8, x9, x10, some (.int ch), some (.ref M), x13] ∧ RIn P w x Tb R many rest (decide (way = 2)) (ksOf rows many) es us H H' ∧ H' M = some (.lst (nI ms)) ∧ ms.Pairwise (· < ·) ∧ (∀ m ∈ ms, m < i) ∧ ms.length ≤ i)
        ⟨x10, none, [], rfl, I8, M8, .nil, fun m hm => (nomatch hm), Nat.le_refl _⟩ ?_ ?_
      · rintro i σ H9 hi ⟨x10, x13, ms, rfl, I9, M9, pw, lt, ll⟩
        have e0 : (0 : Int) + (i : Nat) = ((i : Nat) : Int) := by omega
        rw [e0]
        refine ⟨_, rfl, x, 2, rfl, I9.b, by decide, by decide, fun H10 bit k10 b10 _ _ => ?_⟩
        have I10 := I9.draw k10 b10 hRx
        have M10 := k10 _ _ M9 nMx
        have lt' : ∀ m ∈ ms, m < i + 1 := fun m hm => Nat.lt_succ_of_lt (lt m hm)
        have app : RIn P w x Tb R many rest (decide (way = 2)) (ksOf rows many) es us H (upd H10 M (.lst (nI ms ++ [V.int ((i : Nat) : Int)]))) := by
          have kt : ∀ t ys, H10 t = some (.tup ys) → (upd H10 M (.lst (nI ms ++ [V.int ((i : Nat) : Int)]))) t = some (.tup ys) := fun t ys h => by rw [upd_ne (ne_of h M10 (fun e => nomatch e))]; exact h
          exact ⟨I10.k.upd_own hM0, b10.upd_ne nMx, I10.t.upd_l M10, I10.ks, I10.lt, by rw [upd_ne nRM]; exact I10.r, I10.rw.keep kt⟩
        have pw' : (ms ++ [i]).Pairwise (· < ·) := List.pairwise_append.mpr ⟨pw, List.pairwise_singleton _ _, fun a ha b hb => by rw [List.mem_singleton.mp hb]; exact lt a ha⟩
        have lm' : ∀ m ∈ ms ++ [i], m < i + 1 := fun m hm => by
          rcases List.mem_append.mp hm with h | h
          · exact lt' m h
          · rw [List.mem_singleton.mp h]; exact Nat.lt_succ_self i
        have ll' : (ms ++ [i]).length ≤ i + 1 := by rw [List.length_append]; exact Nat.succ_le_succ ll
        have lms : (nI ms).length < sizeLine := by rw [nI_len]; exact lt_line (by omega)
        refine ⟨_, rfl, rfl, _, rfl, ite2 (fun _ => ifp rfl ?_) (fun _ => ⟨_, rfl, _, _, rfl, rfl, _, rfl, ite2 (fun _ => ⟨_, rfl, rfl, _, rfl, ite2 (fun _ => ?_) (fun _ => ?_)⟩) (fun _ => ifn (by decide) ?_)⟩)⟩
        · exact ⟨_, rfl, .inl ⟨rfl, _, SqL.of M10⟩, _, rfl, M, _, _, rfl, rfl, M10, lms, _, _, ms ++ [i], rfl, app, by rw [upd_same, nI_snoc], pw', lm', ll'⟩
        · exact ⟨_, rfl, .inl ⟨rfl, _, SqL.of M10⟩, _, rfl, M, _, _, rfl, rfl, M10, lms, _, _, ms ++ [i], rfl, app, by rw [upd_same, nI_snoc], pw', lm', ll'⟩
        · exact ⟨_, _, ms, rfl, I10, M10, pw, lt', Nat.le_succ_of_le ll⟩
        · exact ⟨_, _, ms, rfl, I10, M10, pw, lt', Nat.le_succ_of_le ll⟩
      rintro σ H9 ⟨x10, x13, ms, rfl, I9, M9, pw, lt, ll⟩
      refine ⟨fun σ H' => ∃ ms : List Nat, σ = [some (.ref x), some (.ref r), some (.int 3), some (.int (many : Nat)), some (.int (rest : Nat)), some (.int way), some (.ref Tb), some (.ref R), x8, x9, x10, some (.int ch), some (.ref M), x13] ∧ RIn P w x Tb R many rest (decide (way = 2)) (ksOf rows many) es us H H' ∧ H' M = some (.lst (nI ms)) ∧ ms.Pairwise (· < ·) ∧ (∀ m ∈ ms, m < many), ?_, ?_⟩
      · refine ⟨_, rfl, M, _, rfl, .inl (SqL.of M9), rfl, _, rfl, ite2 (fun c0 => ⟨_, rfl, _, _, rfl, rfl, _, rfl, ite2 (fun _ => ?_) (fun _ => ⟨ms, rfl, I9, M9, pw, lt⟩)⟩) (fun _ => ifn (by decide) ⟨ms, rfl, I9, M9, pw, lt⟩)⟩
        have e0 : ms = [] := by
          rw [veq, nI_len] at c0
          have := of_decide_eq_true c0
          exact List.eq_nil_of_length_eq_zero (by omega)
        subst e0
        refine ⟨_, rfl, .inl ⟨rfl, _, SqL.of M9⟩, _, rfl, _, rfl, x, many, rfl, I9.b, by omega, by omega, fun H10 z k10 b10 z0 z1 => ?_⟩
        obtain ⟨s, rfl⟩ : ∃ n : Nat, z = (n : Nat) := ⟨z.toNat, by omega⟩
        have I10 := I9.draw k10 b10 hRx
        have M10 := k10 _ _ M9 nMx
        have kt : ∀ t ys, H10 t = some (.tup ys) → (upd H10 M (.lst (nI [] ++ [V.int ((s : Nat) : Int)]))) t = some (.tup ys) := fun t ys h => by rw [upd_ne (ne_of h M10 (fun e => nomatch e))]; exact h
        refine ⟨M, _, _, rfl, rfl, M10, lt_line (by decide), [s], rfl, ⟨I10.k.upd_own hM0, b10.upd_ne nMx, I10.t.upd_l M10, I10.ks, I10.lt, by rw [upd_ne nRM]; exact I10.r, I10.rw.keep kt⟩, upd_same, List.pairwise_singleton _ _, fun m hm => by rw [List.mem_singleton.mp hm]; omega⟩
      rintro σ H10 ⟨ms, rfl, I10, M10, pw, lt⟩
      refine ⟨fun σ H' => ∃ (R' : Addr) (us' : List Addr) (rs : List REnt), σ = [some (.ref x), some (.ref r), some (.int 3), some (.int (many : Nat)), some (.int (rest : Nat)), some (.int way), some (.ref Tb), some (.ref R'), x8, x9, x10, some (.int ch), some (.ref M), x13] ∧ Same H10 H' ∧ H' R' = some (.lst (us'.map V.ref)) ∧ RwAt H' us' rs ∧ (rs = es.filter (pR rest (decide (way = 2))) ∨ rs = (es.filter (pR rest (decide (way = 2)))).reverse), ?_, ?_⟩
      · refine ⟨_, rfl, rfl, _, rfl, ite2 (fun _ => ⟨_, rfl, R, _, rfl, SqL.of I10.r, fun l hl => ?_⟩) (fun _ => ⟨R, us, _, rfl, Same.refl H10, I10.r, I10.rw, .inl rfl⟩)⟩
        rw [← List.map_reverse]
        have s11 := (Same.refl H10).upd_new (o := .lst (us.reverse.map V.ref)) hl
        exact ⟨l, us.reverse, _, rfl, s11, upd_same, I10.rw.reverse.keep fun t ys h => s11 _ _ h, .inr rfl⟩
      rintro σ H11 ⟨R', us', rs, rfl, s11, R11, rw11, ers⟩
      refine ⟨_, rfl, _, rfl, _, rfl, _, rfl, _, rfl, le_line (show 5 ≤ 10000000 by decide), fun a ha => ?_⟩
      have s12 := s11.upd_new (o := .lst [.int ((many : Nat) : Int), .ref Tb, .ref M, .ref R', .int ((rest : Nat) : Int)]) ha
      have s112 := (Same.refl H11).upd_new (o := .lst [.int ((many : Nat) : Int), .ref Tb, .ref M, .ref R', .int ((rest : Nat) : Int)]) ha
      have mem : ∀ e, e ∈ rs ↔ e ∈ es ∧ pR rest (decide (way = 2)) e = true := fun e => by
        rcases ers with h | h
        · rw [h, List.mem_filter]
        · rw [h, List.mem_reverse, List.mem_filter]
      have nd := ks_nd (many := many) Ro.nd
      rw [← I10.ks] at nd
      refine key _ a ⟨many, rest, es, rs, ms⟩ (I10.k.trans (Kp.same s12)) ⟨mm1, mm3, hre, I10.ks, I10.lt, fun e he => ((mem e).mp he).1, fun e he => ?_, ?_, ?_, pw, lt⟩ ⟨Tb, M, R', us', upd_same, I10.t.sm s12, s12 _ _ M10, s112 _ _ R11, rw11.keep fun t ys h => s112 _ _ h⟩
      · by_cases c : e.2.2 = rest
        · exact .inr c
        · exact .inl ((mem e).mpr ⟨he, by unfold pR; simp [c]⟩)
      · have hf : ((es.filter (pR rest (decide (way = 2)))).map ek).Nodup := nd.sublist (List.filter_sublist.map ek)
        rcases ers with h | h
        · show (rs.map ek).Nodup
          rw [h]
          exact hf
        · show (rs.map ek).Nodup
          rw [h, List.map_reverse]
          exact (List.reverse_perm _).nodup_iff.mpr hf
      · have les : es.length ≤ 108 := by
          have h1 := ks_len mm3 Ro
          rw [← I10.ks, List.length_map] at h1
          exact h1
        have := List.length_filter_le (pR rest (decide (way = 2))) es
        rcases ers with h | h
        · show rs.length ≤ 108
          rw [h]
          omega
        · show rs.length ≤ 108
          rw [h, List.length_reverse]
          omega
end
end Sh
end
section
set_option Elab.async false
set_option linter.all false
set_option maxRecDepth 100000
set_option maxHeartbeats 8000000
namespace Sh
open PySem PySem.Spec PyProof.Rows L2
open C8 (pss_cut tCut)
open Evl (ixN_nat)
structure Br (mg : Str → Option Value) : Prop extends Bp mg where
  c_MOST_STATES : ∃ t, mg "MOST_STATES" = some (.int 40 t)
  b_sum : mg "sum" = none
def RdD.stp (D : RdD) (z : Str) (ss : List Nat) : Nat := ((D.rws.find? fun e => decide (ek e = (z, ss))).map (·.2.2)).getD D.rest
theorem nd_key {es : List REnt} (nd : (es.map ek).Nodup) {e e' : REnt} (h : e ∈ es) (h' : e' ∈ es) (k : ek e = ek e') : e = e' := by
  induction es with
  | nil => cases h
  | cons y es ih =>
    rw [List.map_cons] at nd
    obtain ⟨n1, n2⟩ := List.nodup_cons.mp nd
    rcases List.mem_cons.mp h with rfl | g
    · rcases List.mem_cons.mp h' with rfl | g'
      · rfl
      · exact absurd (List.mem_map.mpr ⟨e', g', k.symm⟩) n1
    · rcases List.mem_cons.mp h' with rfl | g'
      · exact absurd (List.mem_map.mpr ⟨e, g, k⟩) n1
      · exact ih n2 g g'
theorem RdD.Ok.ndE {D : RdD} {rows : List Row} (h : D.Ok rows) (R : ROk 4 rows) : (D.ent.map ek).Nodup := by
  rw [h.ks]
  exact ks_nd R.nd
theorem RdD.Ok.stp_ent {D : RdD} {rows : List Row} (h : D.Ok rows) (R : ROk 4 rows) {e : REnt} (he : e ∈ D.ent) : D.stp e.1 e.2.1 = e.2.2 := by
  unfold RdD.stp
  cases hf : D.rws.find? (fun q => decide (ek q = (e.1, e.2.1))) with
  | none =>
    rcases h.all e he with c | c
    · exact absurd (List.find?_eq_none.mp hf e c) (by show ¬ ¬ decide (ek e = ek e) = true; simp)
    · exact c.symm
  | some q =>
    have hp0 := List.find?_some hf
    have hp : ek q = ek e := of_decide_eq_true hp0
    have := nd_key (h.ndE R) (h.sub q (List.mem_of_find?_eq_some hf)) he hp
    rw [this]
    rfl
theorem mem_ks {rows : List Row} {many : Nat} {z : Str} {ss : List Nat} : (z, ss) ∈ ksOf rows many ↔ ∃ q ∈ rows, q.1 = z ∧ ss.length = q.2.toNat ∧ ∀ s ∈ ss, s < many := by
  unfold ksOf
  rw [List.mem_flatMap]
  constructor
  · rintro ⟨q, hq, h⟩
    obtain ⟨t, ht, e⟩ := List.mem_map.mp h
    obtain ⟨e1, e2⟩ := Prod.mk.inj e
    obtain ⟨h1, h2⟩ := wq_mem.mp ht
    rw [← e2]
    exact ⟨q, hq, e1, h1, h2⟩
  · rintro ⟨q, hq, rfl, h1, h2⟩
    exact ⟨q, hq, List.mem_map.mpr ⟨ss, wq_mem.mpr ⟨h1, h2⟩, rfl⟩⟩
theorem wR_of {rows : List Row} {m : Int} (R : ROk m rows) {q : Row} (h : q ∈ rows) : wR rows q.1 = q.2.toNat := by
  have := wR_row R h
  omega
theorem ks_has {rows : List Row} {m : Int} (R : ROk m rows) {many : Nat} {z : Str} {ss : List Nat} : (z, ss) ∈ ksOf rows many ↔ HasN rows z ∧ ss.length = wR rows z ∧ ∀ s ∈ ss, s < many := by
  rw [mem_ks]
  constructor
  · rintro ⟨q, hq, rfl, h1, h2⟩
    exact ⟨⟨q, hq, rfl⟩, by rw [wR_of R hq]; exact h1, h2⟩
  · rintro ⟨⟨q, hq, rfl⟩, h1, h2⟩
    exact ⟨q, hq, rfl, by rw [wR_of R hq] at h1; exact h1, h2⟩
theorem RdD.Ok.ent_at {D : RdD} {rows : List Row} (h : D.Ok rows) (R : ROk 4 rows) {z : Str} {ss : List Nat} (hz : HasN rows z) (hl : ss.length = wR rows z) (hs : ∀ s ∈ ss, s < D.many) : (z, ss, D.stp z ss) ∈ D.ent := by
  have hm : (z, ss) ∈ ksOf rows D.many := (ks_has R).mpr ⟨hz, hl, hs⟩
  rw [← h.ks] at hm
  obtain ⟨e, he, hk⟩ := List.mem_map.mp hm
  obtain ⟨e1, e2⟩ := Prod.mk.inj hk
  have := h.stp_ent R he
  rw [e1, e2] at this
  rw [this, ← e1, ← e2]
  exact he
theorem RdD.Ok.stp_lt {D : RdD} {rows : List Row} (h : D.Ok rows) (R : ROk 4 rows) {z : Str} {ss : List Nat} (hz : HasN rows z) (hl : ss.length = wR rows z) (hs : ∀ s ∈ ss, s < D.many) : D.stp z ss < D.many := h.lt _ (h.ent_at R hz hl hs)
theorem RdD.Ok.val {D : RdD} {rows : List Row} (h : D.Ok rows) (R : ROk 4 rows) {z : Str} {ss : List Nat} (hz : HasN rows z) (hl : ss.length = wR rows z) (hs : ∀ s ∈ ss, s < D.many) : valV (D.ent.map rkv) (nkR (z, ss)) = some (.int ((D.stp z ss : Nat) : Int)) :=
  rkv_some (h.ndE R) (h.ent_at R hz hl hs)
def tkey (ss : List Nat) : List Key := ss.map fun i => .inl ((i : Nat) : Int)
theorem tkey_inj {a b : List Nat} (h : tkey a = tkey b) : a = b := inl_inj h
theorem tkey_V (ss : List Nat) : (tkey ss).map kV = nI ss := (nI_key ss).symm
def cz (n : Str) (es : List REnt) : List (List Key × V) := (es.filter fun e => decide (e.1 = n)).map fun e => (tkey e.2.1, .int ((e.2.2 : Nat) : Int))
theorem cz_snoc (n : Str) (es : List REnt) (e : REnt) : cz n (es ++ [e]) = cz n es ++ if e.1 = n then [(tkey e.2.1, .int ((e.2.2 : Nat) : Int))] else [] := by
  unfold cz
  rw [List.filter_append, List.map_append]
  congr 1
  by_cases h : e.1 = n
  · rw [if_pos h, List.filter_cons_of_pos (by rw [h]; simp)]
    rfl
  · rw [if_neg h, List.filter_cons_of_neg (by simp [h])]
    rfl
theorem cz_val (n : Str) (ss : List Nat) (es : List REnt) : valV (cz n es) (tkey ss) = (es.find? fun e => decide (ek e = (n, ss))).map fun e => V.int ((e.2.2 : Nat) : Int) := by
  induction es with
  | nil => rfl
  | cons e es ih =>
    unfold cz at ih ⊢
    by_cases h : e.1 = n
    · rw [List.filter_cons_of_pos (by rw [h]; simp), List.map_cons]
      by_cases h2 : e.2.1 = ss
      · rw [valV_pos (by show tkey e.2.1 = _; rw [h2]), List.find?_cons_of_pos (by unfold ek; rw [h, h2]; simp)]
        rfl
      · rw [valV_neg (fun q => h2 (tkey_inj q)), ih, List.find?_cons_of_neg (by show ¬ decide (ek e = (n, ss)) = true; exact fun q => h2 (Prod.mk.inj (of_decide_eq_true q)).2)]
    · rw [List.filter_cons_of_neg (by simp [h]), ih, List.find?_cons_of_neg (by show ¬ decide (ek e = (n, ss)) = true; exact fun q => h (Prod.mk.inj (of_decide_eq_true q)).1)]
structure CzAt (H : Hp) (d : Addr) (ns : List Str) (ds : List Addr) (es : List REnt) : Prop where
  at_ : H d = some (.dK (tnL ns ds))
  len : ds.length = ns.length
  nd : ds.Nodup
  nin : d ∉ ds
  row : ∀ (i : Nat) (n : Str) (a : Addr), ns[i]? = some n → ds[i]? = some a → H a = some (.dT (cz n es))
theorem CzAt.same {H H' : Hp} {d : Addr} {ns : List Str} {ds : List Addr} {es : List REnt} (x : CzAt H d ns ds es) (s : Same H H') : CzAt H' d ns ds es := ⟨s _ _ x.at_, x.len, x.nd, x.nin, fun i n a h1 h2 => s _ _ (x.row i n a h1 h2)⟩
theorem CzAt.add {H : Hp} {D p : Addr} {ns : List Str} {ds : List Addr} {n : Str} (x : CzAt H D ns ds []) (hp : H p = none) (hn : n ∉ ns) : CzAt (upd (upd H p (.dT [])) D (.dK (putK (tnL ns ds) (.inr n) (.ref p)))) D (ns ++ [n]) (ds ++ [p]) [] := by
  have npD : p ≠ D := fun e => by rw [e, x.at_] at hp; cases hp
  have npd : ∀ a ∈ ds, a ≠ p := fun a ha e => by
    obtain ⟨i, hi⟩ := List.mem_iff_getElem?.mp ha
    have l := (List.getElem?_eq_some_iff.mp hi).1
    have l : i < ns.length := by rw [← x.len]; exact l
    have q := x.row i ns[i] a (List.getElem?_eq_getElem l) hi
    rw [e, hp] at q
    cases q
  have fresh : valV (tnL ns ds) (.inr n) = none := valV_none fun kv hk e => by
    obtain ⟨q, hq, rfl⟩ := List.mem_map.mp hk
    have e : q.1 = n := inr_iff.mp e
    exact hn (e ▸ (List.of_mem_zip hq).1)
  refine ⟨?_, ?_, ?_, ?_, ?_⟩
  · rw [upd_same, putK_new _ fresh]
    unfold tnL
    rw [List.zip_append x.len.symm, List.map_append]
    rfl
  · rw [List.length_append, List.length_append, x.len]
    rfl
  · exact List.nodup_append.mpr ⟨x.nd, by simp, fun a ha b hb => by
      rw [List.mem_singleton.mp hb]
      exact npd a ha⟩
  · intro h
    rcases List.mem_append.mp h with h | h
    · exact x.nin h
    · exact npD (List.mem_singleton.mp h).symm
  · intro i m a h1 h2
    by_cases c : i < ns.length
    · rw [List.getElem?_append_left c] at h1
      rw [List.getElem?_append_left (by rw [x.len]; exact c)] at h2
      have q1 := x.row i m a h1 h2
      have ha := List.mem_of_getElem? h2
      have naD : a ≠ D := fun e => x.nin (by rw [← e]; exact ha)
      rw [upd_ne naD, upd_ne (npd a ha)]
      exact q1
    · rw [List.getElem?_append_right (by omega)] at h1
      rw [List.getElem?_append_right (by rw [x.len]; omega), x.len] at h2
      have e0 : i - ns.length = 0 := by
        have := (List.getElem?_eq_some_iff.mp h1).1
        have l1 : ([n] : List Str).length = 1 := rfl
        omega
      rw [e0] at h1 h2
      cases h1
      cases h2
      rw [upd_ne npD, upd_same]
      rfl
theorem CzAt.put {H : Hp} {D a : Addr} {ns : List Str} {ds : List Addr} {es : List REnt} {e : REnt} (x : CzAt H D ns ds es) (nd : ns.Nodup) (fr : ek e ∉ es.map ek) {i : Nat} (h1 : ns[i]? = some e.1) (h2 : ds[i]? = some a) :
    CzAt (upd H a (.dT (putK (cz e.1 es) (tkey e.2.1) (.int ((e.2.2 : Nat) : Int))))) D ns ds (es ++ [e]) := by
  have nDa : D ≠ a := fun q => x.nin (q ▸ List.mem_of_getElem? h2)
  have hv : valV (cz e.1 es) (tkey e.2.1) = none := by
    rw [cz_val, Option.map_eq_none_iff, List.find?_eq_none]
    intro q hq hk
    exact fr (List.mem_map.mpr ⟨q, hq, of_decide_eq_true hk⟩)
  refine ⟨by rw [upd_ne nDa]; exact x.at_, x.len, x.nd, x.nin, fun j m b g1 g2 => ?_⟩
  by_cases c : j = i
  · subst c
    rw [h1] at g1
    cases g1
    rw [h2] at g2
    cases g2
    rw [upd_same, putK_new _ hv, cz_snoc, if_pos rfl]
  · have nb : b ≠ a := fun q => by
      have l1 := (List.getElem?_eq_some_iff.mp g2)
      have l2 := (List.getElem?_eq_some_iff.mp h2)
      exact c ((List.getElem_inj x.nd).mp (l1.2.trans (q.trans l2.2.symm)))
    have nm : e.1 ≠ m := fun q => c (nd_at nd (q ▸ g1) h1)
    rw [upd_ne nb, cz_snoc, if_neg nm, List.append_nil]
    exact x.row j m b g1 g2
def spStates52 : Sp := fun vs H Q _ => ∃ (m : Nat), vs = [.int (m : Nat)] ∧ 1 ≤ m ∧ m ≤ 3 ∧ Q .non H
def spAre52 : Sp := fun vs H Q _ => ∃ (m : Nat) (t : Addr) (ss : List Nat), vs = [.int (m : Nat), .ref t] ∧ H t = some (.tup (nI ss)) ∧ ss.length ≤ 1000 ∧ (∀ s ∈ ss, s < m) ∧ ∀ H', Same H H' → Q (.bl true) H'
def spMarks52 : Sp := fun vs H Q _ => ∃ (m : Nat) (t : Addr) (ms : List Nat), vs = [.int (m : Nat), .ref t] ∧ Tq H t (nI ms) ∧ ms.Pairwise (· < ·) ∧ (∀ s ∈ ms, s < m) ∧ Q .non H
def spByKind52 (C : Addr) : Sp := fun vs H Q _ => ∃ (b t : Addr) (us : List Addr) (m : Nat) (rows : List Row) (rs : List REnt), vs = [.ref b, .int (m : Nat), .ref t] ∧ BedAt C H b rows ∧ ROk 4 rows ∧ Tq H t (us.map V.ref) ∧ RwAt H us rs ∧ (rs.map ek).Nodup ∧ rs.length ≤ 108 ∧ (∀ e ∈ rs, (e.1, e.2.1) ∈ ksOf rows m ∧ e.2.2 < m) ∧ ∀ H' d ds, Same H H' → CzAt H' d (rows.map (·.1)) ds rs → Q (.ref d) H'
abbrev N_check_states : List Str := ["states"]
theorem sc_check_states : FnScope N_check_states ["states"] (defScope s_check_states) := ⟨rfl, rfl, rfl, by decide +kernel, rfl, by decide +kernel, by decide +kernel⟩
abbrev N_are_states : List Str := ["states", "numbers", "number"]
theorem sc_are_states : FnScope N_are_states ["states", "numbers"] (defScope s_are_states) := ⟨rfl, rfl, rfl, by decide +kernel, rfl, by decide +kernel, by decide +kernel⟩
abbrev N_check_marks : List Str := ["states", "marks", "least", "mark"]
theorem sc_check_marks : FnScope N_check_marks ["states", "marks"] (defScope s_check_marks) := ⟨rfl, rfl, rfl, by decide +kernel, rfl, by decide +kernel, by decide +kernel⟩
abbrev N_rows_by_kind : List Str := ["bed", "states", "rows", "table", "place", "kind", "below", "state"]
theorem sc_rows_by_kind : FnScope N_rows_by_kind ["bed", "states", "rows"] (defScope s_rows_by_kind) := ⟨rfl, rfl, rfl, by decide +kernel, rfl, by decide +kernel, by decide +kernel⟩
section
variable {P : Program} {w : World} {K : PySem.W.Frag} {mg : Str → Option Value} {base : Heap} {C : Addr}
theorem ok_states52 (T : Br mg) (D : Def0 K mg "check_states" s_check_states) : DefOk P w K mg base CX0 1 "check_states" spStates52 := by
  refine D.ok sc_check_states (fun vs H Q E h => ?_) (fun _ _ _ _ _ _ us hl => match us, hl with | [_], _ => rfl) (fun f cdv A outer s H vs Q E hr h => ?_)
  · obtain ⟨m, rfl, _⟩ := h
    rfl
  · obtain ⟨m, rfl, h1, h3, k⟩ := h
    refine ⟨_, (pss_cons (ps_if (pt_cmpR op_gt (pv 0) (pe_cI (by rfl) T.c_MOST_STATES) (nomark _))
        (pss_one ps_never)
        pss_nil)
      (pss_one (ps_if (pt_cmpR op_lt (pv 0) pe_int (nomark _))
        (pss_one ps_never)
        pss_nil))), ?_⟩
    exact ⟨_, rfl, _, _, rfl, rfl, _, rfl, ite2 (fun c => absurd (of_decide_eq_true c) (by omega)) (fun _ => ⟨_, rfl, _, _, rfl, rfl, _, rfl, ite2 (fun c => absurd (of_decide_eq_true c) (by omega)) (fun _ => k)⟩)⟩
theorem ok_are52 (T : Bl mg) (D : Def0 K mg "are_states" s_are_states) : DefOk P w K mg base CX0 1 "are_states" spAre52 := by
  refine D.ok sc_are_states (fun vs H Q E h => ?_) (fun _ _ _ _ _ _ us hl => match us, hl with | [_, _], _ => rfl) (fun f cdv A outer s H vs Q E hr h => ?_)
  · obtain ⟨m, t, ss, rfl, _⟩ := h
    rfl
  · obtain ⟨m, t, ss, rfl, ht, h1, h2, k⟩ := h
    refine ⟨_, (pss_one (ps_ret (pe_callB (cr_all rfl) (by rfl) T.b_all (by decide +kernel) (pa_cons (pe_lc (own := [("number", 2)]) (g := (gName 2)) (tt := tYes) rfl sc_are_states.nd (pi_tup (pv 1)) (blkOk_by (N := N_are_states) (sc := defScope s_are_states) (by decide +kernel)) (fun _ _ _ _ _ => (pg_name (i := 2) sc_are_states.nd rfl (Or.inl rfl))) (fun _ _ _ _ _ => pts_nil) (fun _ _ _ _ _ => (pe_chain op_le op_lt pe_int (pv 2) (pv 0)))) pa_nil)))), ?_⟩
    refine ⟨_, rfl, t, rfl, ⟨_, SqT.of ht⟩, fun D hD => lc_it (walk_tup (xs := nI ss)) (fun i H' => Same H H' ∧ H' D = some (.lst ((List.replicate i true).map V.bl))) ⟨(Same.refl H).upd_new hD, upd_same⟩ (fun i H' _ ⟨q, _⟩ => SqT.of (q _ _ ht)) ?_ ?_⟩
    · rintro i v H1 H2 hi ⟨q1, q2⟩ ⟨rfl, hv⟩
      rw [nI_len] at hi
      have hs := List.getElem?_eq_getElem hi
      have hm := h2 _ (List.getElem_mem hi)
      rw [nI_at hs] at hv
      injection hv with hv
      subst hv
      generalize ss[i] = s at hm
      refine ⟨rfl, _, rfl, _, _, rfl, rfl, _, rfl, ifp (decide_eq_true (by omega)) ⟨_, rfl, _, _, rfl, rfl, ?_⟩⟩
      have ed : ((fun i j : Int => V.bl (decide (i < j))) ((s : Nat) : Int) ((m : Nat) : Int)) = V.bl true := by
        show V.bl (decide _) = _
        rw [decide_eq_true (by omega)]
      rw [ed]
      refine ⟨_, q2, ?_, q1.upd_own hD, ?_⟩
      · rw [List.length_map, List.length_replicate]
        exact lt_line (by omega)
      · rw [upd_same, List.replicate_succ', List.map_append]
        rfl
    · rintro H1 ⟨q1, q2⟩
      refine ⟨D, _, rfl, SqL.of q2, ?_⟩
      rw [show (List.replicate (nI ss).length true).all id = true from by rw [List.all_eq_true]; intro x hx; exact (List.mem_replicate.mp hx).2]
      exact k H1 q1
theorem ok_marks52 (T : Bl mg) (D : Def0 K mg "check_marks" s_check_marks) : DefOk P w K mg base CX0 1 "check_marks" spMarks52 := by
  refine D.ok sc_check_marks (fun vs H Q E h => ?_) (fun _ _ _ _ _ _ us hl => match us, hl with | [_, _], _ => rfl) (fun f cdv A outer s H vs Q E hr h => ?_)
  · obtain ⟨m, t, ms, rfl, _⟩ := h
    rfl
  · obtain ⟨m, t, ms, rfl, ht, pw, lt, k⟩ := h
    refine ⟨_, (pss_cons (ps_set (i := 2) sc_check_marks.nd rfl (Or.inl rfl) pe_int)
      (pss_one (ps_for PassesOwn.never rfl (pi_tup (pv 1)) (pg_name (i := 3) sc_check_marks.nd rfl (Or.inl rfl))
        (pss_cons (ps_if (PW.pt (pw_or (pt_cmpR op_lt (pv 3) (pv 2) (nomark _)) (pw_or1 (pt_cmpR op_ge (pv 3) (pv 0) (nomark _)))))
          (pss_one ps_never)
          pss_nil)
        (pss_one (ps_set (i := 2) sc_check_marks.nd rfl (Or.inl rfl) (pe_op op_add (pv 3) pe_int))))))), ?_⟩
    refine ⟨_, rfl, t, rfl, ⟨_, ht.sq⟩, for_tup (xs := nI ms) (fun i σ H' => ∃ (x3 : Option V) (l : Nat), σ = [some (.int (m : Nat)), some (.ref t), some (.int (l : Nat)), x3] ∧ H = H' ∧ ∀ (j s : Nat), i ≤ j → ms[j]? = some s → l ≤ s)
      ⟨none, 0, rfl, rfl, fun _ _ _ _ => Nat.zero_le _⟩ (fun i σ H' _ ⟨_, _, _, e, _⟩ => e ▸ ht.sq) ?_ ?_⟩
    · rintro i v σ H1 hv ⟨x3, l, rfl, rfl, hl⟩
      have hi : i < ms.length := by rw [← nI_len ms]; exact (List.getElem?_eq_some_iff.mp hv).1
      have hs := List.getElem?_eq_getElem hi
      have hm := lt _ (List.getElem_mem hi)
      rw [nI_at hs] at hv
      injection hv with hv
      subst hv
      have hge := hl i ms[i] (Nat.le_refl _) hs
      have nx : ∀ (j s : Nat), i + 1 ≤ j → ms[j]? = some s → ms[i] + 1 ≤ s := fun j s hj h => by
        obtain ⟨l1, e1⟩ := List.getElem?_eq_some_iff.mp h
        rw [← e1]
        exact List.pairwise_iff_getElem.mp pw i j hi l1 (by omega)
      generalize ms[i] = s at hm hge nx
      refine ⟨_, rfl, _, rfl, _, _, rfl, rfl, _, rfl, ite2 (fun c => absurd (of_decide_eq_true c) (by omega)) (fun _ => ⟨_, rfl, _, rfl, _, _, rfl, rfl, _, rfl, ite2 (fun c => absurd (of_decide_eq_true c) (by omega)) (fun _ => ⟨_, rfl, _, _, rfl, rfl, ?_⟩)⟩)⟩
      exact ⟨_, s + 1, rfl, rfl, nx⟩
    · rintro σ H1 ⟨x3, l, rfl, rfl, hl⟩
      exact k
theorem ok_bykind52 (T : Bl mg) (B : BedT K C) (c_are_states : DefOk P w K mg base CX0 1 "are_states" spAre52) (D : Def0 K mg "rows_by_kind" s_rows_by_kind) : DefOk P w K mg base CX0 2 "rows_by_kind" (spByKind52 C) := by
  refine D.ok sc_rows_by_kind (fun vs H Q E h => ?_) (fun _ _ _ _ _ _ us hl => match us, hl with | [_, _, _], _ => rfl) (fun f cdv A outer s H vs Q E hr h => ?_)
  · obtain ⟨b, t, us, m, rows, rs, rfl, _⟩ := h
    rfl
  · obtain ⟨b, t, us, m, rows, rs, rfl, hB, R, ht, hW, nd, l108, good, key⟩ := h
    have hu := hu_of hr
    have r4 := R.len
    refine ⟨_, (pss_cons (ps_setDc (i := 3) (own := [("kind", 5)]) (g := (gName 5)) (tt := tYes) rfl sc_rows_by_kind.nd rfl rfl (sw_trueD rfl rfl rfl (by decide +kernel)) (pi_tup (pe_fld (pv 0) rfl)) (blkOk_by (N := N_rows_by_kind) (sc := defScope s_rows_by_kind) (by decide +kernel)) (fun _ _ _ _ _ => (pg_name (i := 5) sc_rows_by_kind.nd rfl (Or.inl rfl))) (fun _ _ _ _ _ => pts_nil) (fun _ _ _ _ _ => (pv 5)) (fun _ _ _ _ _ => pe_dnewT))
      (pss_cons (ps_for PassesOwn.never rfl (pi_enumT (by rfl) T.b_enumerate (pa_cons (pv 2) pa_nil)) (pg_tup (by rfl) (pgs_cons (pg_name (i := 4) sc_rows_by_kind.nd rfl (Or.inl rfl)) (pgs_cons (pg_tup (by rfl) (pgs_cons (pg_name (i := 5) sc_rows_by_kind.nd rfl (Or.inl rfl)) (pgs_cons (pg_name (i := 6) sc_rows_by_kind.nd rfl (Or.inl rfl)) (pgs_cons (pg_name (i := 7) sc_rows_by_kind.nd rfl (Or.inl rfl)) pgs_nil)))) pgs_nil)))
        (pss_cons (ps_if (PW.pt (pw_or (pt_cmp (pc_dnotin hu (pv 5) (pv 3))) (pw_or (pt_cmpR op_ne (pe_callB call_len_seq (by rfl) T.b_len boot_len (pa_cons (pv 6) pa_nil)) (pe_dget hu (pe_fld (pv 0) rfl) (pv 5) (fun _ _ => rfl)) (nomark _)) (pw_or1 (pt_cmp (pc_din hu (pv 6) (pe_dget hu (pv 3) (pv 5) (fun _ _ => rfl))))))))
          (pss_one ps_never)
          pss_nil)
        (pss_cons (ps_if (pt_not (pt_val (pe_d c_are_states (hr.mono (by decide)) pass0 (pa_cons (pv 1) (pa_cons (pe_tup (StX.pa_star (pv 6) (pa_cons (pv 7) pa_nil))) pa_nil)))))
          (pss_one ps_never)
          pss_nil)
        (pss_one (ps_dput hu (pe_dget hu (pv 3) (pv 5) (fun _ _ => rfl)) (pv 6) (pv 7) rfl)))))
      (pss_one (ps_ret (pv 3))))), ?_⟩
    obtain ⟨bx, r, kk, ww, rk, ts, b1, b2, b3, b4, b5, b6⟩ := id hB
    refine ⟨_, rfl, b, C, bx, _, _, rfl, b1, B.cl, B.nK, lk_kinds _ _ _ _, kk, rfl, ⟨_, SqT.of b4⟩, fun D hD => dc_it (walk_tup (xs := (rows.map (·.1)).map V.str)) (fun i H' => Same H H' ∧ ∃ ds, CzAt H' D ((rows.map (·.1)).take i) ds [] ∧ ∀ a ∈ ds, H a = none)
      ⟨(Same.refl H).upd_new hD, [], ⟨upd_same, by simp, List.nodup_nil, (fun h => nomatch h), fun i n a h => by simp at h⟩, fun a h => nomatch h⟩ (fun i H' _ ⟨q, _⟩ => SqT.of (q _ _ b4)) ?_ ?_⟩
    · rintro i v H3 H4 hi ⟨s3, ds, T3, f3⟩ ⟨rfl, hv⟩
      rw [List.length_map] at hi
      obtain ⟨n, hn, rfl⟩ := get_map hv
      refine ⟨rfl, ?_⟩
      refine ⟨_, rfl, fun p hp => ?_⟩
      have npD : p ≠ D := fun e => by rw [e, T3.at_] at hp; cases hp
      have f2p := s3.free hp
      have hl : ((rows.map (·.1)).take i).length = i := by rw [List.length_take]; omega
      refine ⟨_, .inr n, rfl, by rw [upd_ne (Ne.symm npD)]; exact T3.at_, ?_, (s3.upd_new hp).upd_own hD, ds ++ [p], ?_, fun a ha => ?_⟩
      · unfold tnL
        rw [List.length_map, List.length_zip, hl]
        rw [List.length_map] at hi
        exact lt_line (n := min i _) (by omega)
      · rw [← take_snoc hn]
        refine T3.add hp fun hm => ?_
        have := nd_take R.nd (i := i) (by omega)
        obtain ⟨l1, e1⟩ := List.getElem?_eq_some_iff.mp hn
        exact this (e1 ▸ hm)
      · rcases List.mem_append.mp ha with ha | ha
        · exact f3 a ha
        · rw [List.mem_singleton.mp ha]
          exact f2p
    rintro H3 ⟨s3, ds, T3, f3⟩
    rw [List.length_map, List.take_length] at T3
    have lus : (us.map V.ref).length = rs.length := by rw [List.length_map, hW.1]
    refine ⟨_, rfl, t, _, rfl, (ht.same s3).sq, for_it (walk_enumT (xs := us.map V.ref)) (fun i σ H' => ∃ (x4 x5 x6 x7 : Option V), σ = [some (.ref b), some (.int (m : Nat)), some (.ref t), some (.ref D), x4, x5, x6, x7] ∧ Same H H' ∧ CzAt H' D (rows.map (·.1)) ds (rs.take i))
      ⟨none, none, none, none, rfl, s3, T3⟩ (fun i σ H' _ ⟨_, _, _, _, _, s2, _⟩ => (ht.same s2).sq) ?_ ?_⟩
    · rintro i v σ H4 H4' hi ⟨x4, x5, x6, x7, rfl, s4, T4⟩ ⟨P1, v1, v2, rfl, hP1, rfl, e1, e2⟩
      cases e1
      have his : i < rs.length := by rw [lus] at hi; exact hi
      have hiu : i < us.length := by rw [hW.1]; exact his
      have hqi := List.getElem?_eq_getElem his
      obtain ⟨gk, gs⟩ := good _ (List.getElem_mem his)
      obtain ⟨bb, w1, w2⟩ := hW.2 i us[i] rs[i] (List.getElem?_eq_getElem hiu) hqi
      have w1 := s4 _ _ w1
      have w2 := s4 _ _ w2
      have e2' : (us.map V.ref)[i]? = some v2 := e2
      rw [List.getElem?_map, List.getElem?_eq_getElem hiu] at e2'
      cases e2'
      have fr : ek rs[i] ∉ (rs.take i).map ek := fun h => by
        obtain ⟨y, hy, ey⟩ := List.mem_map.mp h
        obtain ⟨j, hj, e⟩ := List.mem_iff_getElem.mp hy
        rw [List.length_take] at hj
        have hj' : j < rs.length := by omega
        have h1 : (rs.map ek)[j]? = some (ek rs[i]) := by
          rw [List.getElem?_map, List.getElem?_eq_getElem hj', ← ey, ← e, List.getElem_take]
          rfl
        have h2 : (rs.map ek)[i]? = some (ek rs[i]) := by rw [List.getElem?_map, hqi]; rfl
        obtain ⟨l1, g1⟩ := List.getElem?_eq_some_iff.mp h1
        obtain ⟨l2, g2⟩ := List.getElem?_eq_some_iff.mp h2
        have := (List.getElem_inj nd).mp (g1.trans g2.symm)
        omega
      generalize us[i] = u at w1
      generalize rs[i] = en at hqi gk gs w1 w2 fr
      obtain ⟨z, ss, s⟩ := en
      obtain ⟨hz, hl, hlt⟩ := (ks_has R).mp gk
      have hz : HasN rows z := hz
      have hl : ss.length = wR rows z := hl
      have hlt : ∀ s ∈ ss, s < m := hlt
      have gs : s < m := gs
      have fr : (z, ss) ∉ (rs.take i).map ek := fr
      have s5 := (Same.refl H4).upd_new (o := .tup [.int ((i : Nat) : Int), .ref u]) hP1
      have f5 : (upd H4 P1 (.tup [.int ((i : Nat) : Int), .ref u])) P1 = some (.tup [.int ((i : Nat) : Int), .ref u]) := upd_same
      generalize upd H4 P1 (.tup [.int ((i : Nat) : Int), .ref u]) = H5 at s5 f5
      have T5 := T4.same s5
      have s05 := s4.trans s5
      obtain ⟨q, hq, eq1⟩ := id hz
      obtain ⟨k, hk⟩ := List.mem_iff_getElem?.mp (List.mem_map.mpr ⟨q, hq, eq1⟩ : z ∈ rows.map (·.1))
      have hkl := (List.getElem?_eq_some_iff.mp hk).1
      have hda := List.getElem?_eq_getElem (show k < ds.length by rw [T5.len]; exact hkl)
      have fa := f3 _ (List.getElem_mem (show k < ds.length by rw [T5.len]; exact hkl))
      generalize ds[k]'(by rw [T5.len]; exact hkl) = a at hda fa
      have ha := T5.row k z a hk hda
      have gT : DGet H5 D (.str z) (some (.ref a)) := by
        have := DGet.k (k := .inr z) T5.at_
        rw [tn_val R.nd hk hda] at this
        exact this
      have gW : DGet H5 ww (.str z) (some (.int ((wR rows z : Nat) : Int))) := by
        have := DGet.k (k := .inr z) (s05 _ _ b5)
        rw [val_wL R hz] at this
        exact this
      have gC : DGet H5 a (.ref bb) none := by
        have := DGet.t (k := tkey ss) ha (by rw [s5 _ _ w2, tkey_V])
        rw [cz_val, Option.map_eq_none_iff.mpr (List.find?_eq_none.mpr fun y hy c => fr (List.mem_map.mpr ⟨y, hy, of_decide_eq_true c⟩))] at this
        exact this
      refine ⟨P1, _, rfl, SqT.of f5, rfl, _, _, rfl, _, _, rfl, u, _, rfl, SqT.of (s5 _ _ w1), rfl, _, _, rfl, _, _, rfl, _, _, rfl, rfl, rfl, ?_⟩
      refine ⟨_, rfl, _, rfl, D, _, rfl, gT, _, rfl, ite2 (fun c => absurd c (by simp)) (fun _ => ?_)⟩
      refine ⟨_, rfl, bb, _, rfl, .inr (SqT.of (s5 _ _ w2)), _, rfl, b, C, bx, _, _, rfl, s05 _ _ b1, B.cl, B.nW, lk_widths _ _ _ _, _, rfl, ww, _, rfl, gW, rfl, _, rfl, ite2 (fun c => ?_) (fun _ => ?_)⟩
      · rw [nI_len, hl] at c
        simp at c
      refine ⟨_, rfl, _, rfl, _, rfl, D, _, rfl, gT, a, _, rfl, gC, _, rfl, ite2 (fun c => absurd c (by decide)) (fun _ => ?_)⟩
      have lss : ss.length ≤ 3 := by rw [hl]; exact wR_le R _
      refine ⟨_, rfl, _, rfl, bb, _, rfl, .inl (SqT.of (s5 _ _ w2)), _, rfl, le_line (by rw [List.length_append, nI_len]; show ss.length + 1 ≤ 10000000; omega), fun v hv => ?_⟩
      have s6 := (Same.refl H5).upd_new (o := .tup (nI ss ++ [.int ((s : Nat) : Int)])) hv
      have v6 : (upd H5 v (.tup (nI ss ++ [.int ((s : Nat) : Int)]))) v = some (.tup (nI (ss ++ [s]))) := by rw [upd_same, nI_snoc]
      have v6' : H5 v = none := hv
      refine ⟨m, v, ss ++ [s], rfl, v6, by rw [List.length_append]; show ss.length + 1 ≤ 1000; omega, fun y hy => ?_, fun H7 s7 => ⟨_, rfl, ifn (by decide) ?_⟩⟩
      · rcases List.mem_append.mp hy with h | h
        · exact hlt y h
        · rw [List.mem_singleton.mp h]; exact gs
      have s57 := s6.trans s7
      have T7 := T5.same s57
      have gT7 : DGet H7 D (.str z) (some (.ref a)) := by
        have := DGet.k (k := .inr z) T7.at_
        rw [tn_val R.nd hk hda] at this
        exact this
      have a7 := T7.row k z a hk hda
      have w7 := s57 _ _ (s5 _ _ w2)
      refine ⟨_, rfl, _, rfl, _, rfl, D, _, rfl, gT7, _, rfl, a, _, rfl, DPut.t (k := tkey ss) a7 (by rw [w7, tkey_V]) ?_, ?_⟩
      · unfold cz
        rw [List.length_map]
        exact lt_line (Nat.le_trans (List.length_filter_le _ _) (by rw [List.length_take]; omega))
      refine ⟨_, _, _, _, rfl, (s05.trans s57).upd_own fa, ?_⟩
      have := T7.put (e := (z, ss, s)) R.nd fr hk hda
      rw [List.take_add_one, hqi]
      exact this
    · rintro σ H4 ⟨x4, x5, x6, x7, rfl, s4, T4⟩
      rw [lus, List.take_length] at T4
      exact ⟨_, rfl, key H4 D ds s4 T4⟩
end
end Sh
end
section
set_option Elab.async false
set_option linter.all false
set_option maxRecDepth 100000
set_option maxHeartbeats 8000000
namespace Sh
open PySem PySem.Spec PyProof.Rows L2
open C8 (pss_cut tCut)
open Evl (ixN_nat)
def rdF (b : Addr) (m : Nat) (d mt : Addr) (o : Nat) : List (Str × V) := [("bed", .ref b), ("states", .int ((m : Nat) : Int)), ("cells", .ref d), ("marks", .ref mt), ("otherwise", .int ((o : Nat) : Int))]
theorem q_ne : ¬ ("bed" : Str) = "states" ∧ ¬ ("bed" : Str) = "cells" ∧ ¬ ("bed" : Str) = "marks" ∧ ¬ ("bed" : Str) = "otherwise" ∧ ¬ ("states" : Str) = "cells" ∧ ¬ ("states" : Str) = "marks" ∧ ¬ ("states" : Str) = "otherwise" ∧ ¬ ("cells" : Str) = "marks" ∧ ¬ ("cells" : Str) = "otherwise" ∧ ¬ ("marks" : Str) = "otherwise" := by decide +kernel
theorem rd_put2 (b : Addr) (m : Int) : putF "states" (.int m) [("bed", .ref b)] = [(("bed" : Str), V.ref b), ("states", .int m)] := by simp [putF, q_ne]
theorem rd_put3 (b d : Addr) (m : Int) : putF "cells" (.ref d) [("bed", .ref b), ("states", .int m)] = [(("bed" : Str), V.ref b), ("states", .int m), ("cells", .ref d)] := by simp [putF, q_ne]
theorem rd_put4 (b d t : Addr) (m : Int) : putF "marks" (.ref t) [("bed", .ref b), ("states", .int m), ("cells", .ref d)] = [(("bed" : Str), V.ref b), ("states", .int m), ("cells", .ref d), ("marks", .ref t)] := by simp [putF, q_ne]
theorem rd_put5 (b d t : Addr) (m o : Nat) : putF "otherwise" (.int (o : Nat)) [("bed", .ref b), ("states", .int ((m : Nat) : Int)), ("cells", .ref d), ("marks", .ref t)] = rdF b m d t o := by simp [putF, q_ne, rdF]
structure RdT (K : PySem.W.Frag) (C : Addr) : Prop where
  cl : Cls K C
  nB : NoAttr K C "bed"
  nS : NoAttr K C "states"
  nC : NoAttr K C "cells"
  nM : NoAttr K C "marks"
  nO : NoAttr K C "otherwise"
def RdAt (C CR : Addr) (H : Hp) (p b : Addr) (rows : List Row) (D : RdD) : Prop := ∃ (dx d mt : Addr) (ds : List Addr), H p = some (.ins CR dx (rdF b D.many d mt D.rest)) ∧ BedAt C H b rows ∧ CzAt H d (rows.map (·.1)) ds D.rws ∧ H mt = some (.tup (nI D.marks))
theorem RdAt.same {C CR : Addr} {H H' : Hp} {p b : Addr} {rows : List Row} {D : RdD} (x : RdAt C CR H p b rows D) (s : Same H H') : RdAt C CR H' p b rows D := by
  obtain ⟨dx, d, mt, ds, h1, h2, h3, h4⟩ := x
  exact ⟨dx, d, mt, ds, s _ _ h1, h2.same s, h3.same s, s _ _ h4⟩
def spRdI (C CR : Addr) : Sp := fun vs H Q _ => ∃ (x dx b tR tM : Addr) (us : List Addr) (rows : List Row) (D : RdD), vs = [.ref x, .ref b, .int (D.many : Nat), .ref tR, .ref tM, .int (D.rest : Nat)] ∧ H x = some (.ins CR dx []) ∧ BedAt C H b rows ∧ ROk 4 rows ∧ D.Ok rows ∧ H tR = some (.tup (us.map V.ref)) ∧ RwAt H us D.rws ∧ H tM = some (.tup (nI D.marks)) ∧ ∀ H', Kp x H H' → RdAt C CR H' x b rows D → Q .non H'
abbrev N_Reader_init__ : List Str := ["self", "bed", "states", "rows", "marks", "otherwise", "table"]
theorem sc_Reader_init__ : FnScope N_Reader_init__ ["self", "bed", "states", "rows", "marks", "otherwise"] (defScope s_Reader_init__) := ⟨rfl, rfl, rfl, by decide +kernel, rfl, by decide +kernel, by decide +kernel⟩
section
variable {P : Program} {w : World} {K : PySem.W.Frag} {mg : Str → Option Value} {base : Heap} {C CR : Addr}
theorem body_rdI (T : Bl mg) (B : BedT K C) (BR : RdT K CR) (c_check_states : DefOk P w K mg base CX0 1 "check_states" spStates52) (c_are_states : DefOk P w K mg base CX0 1 "are_states" spAre52) (c_check_marks : DefOk P w K mg base CX0 1 "check_marks" spMarks52) (c_rows_by_kind : DefOk P w K mg base CX0 2 "rows_by_kind" (spByKind52 C)) {f0 : Addr} {cdv : Value} {A' : Around} {outer : List Env} {s' : Shared} {H : Hp} {vs : List V} {Q : VK} {E : XK} (hr : Room 3 (A'.deeper (envOfC "Reader.__init__" (defScope s_Reader_init__) s'.heap.objs.size f0 cdv))) (h : spRdI C CR vs H Q E) :
    ∃ t, PSs (cxOf CX0 P w K mg base N_Reader_init__ "Reader.__init__" (defScope s_Reader_init__) f0 cdv A' outer s' H E) (defBody s_Reader_init__) t ∧ t { nx := fun _ H' => Q .non H', rt := Q } (start N_Reader_init__ vs) H := by
  obtain ⟨x, dx, b, tR, tM, us, rows, D, rfl, hx, hB, R, O, hR, hW, hM, key⟩ := h
  have hu := hu_of hr
  refine ⟨_, (pss_cons (ps_expr (pe_d c_check_states (hr.mono (by decide)) pass0 (pa_cons (pv 2) pa_nil)))
    (pss_cons (ps_set (i := 6) sc_Reader_init__.nd rfl (Or.inl rfl) (pe_d c_rows_by_kind (hr.mono (by decide)) pass0 (pa_cons (pv 1) (pa_cons (pv 2) (pa_cons (pv 3) pa_nil)))))
    (pss_cons (ps_expr (pe_d c_check_marks (hr.mono (by decide)) pass0 (pa_cons (pv 2) (pa_cons (pv 4) pa_nil))))
    (pss_cons (ps_if (pt_not (pt_val (pe_d c_are_states (hr.mono (by decide)) pass0 (pa_cons (pv 2) (pa_cons (pe_tup (pa_cons (pv 5) pa_nil)) pa_nil)))))
      (pss_one ps_never)
      pss_nil)
    (pss_cons (ps_fld (pv 0) (pv 1) rfl)
    (pss_cons (ps_fld (pv 0) (pv 2) rfl)
    (pss_cons (ps_fld (pv 0) (pv 6) rfl)
    (pss_cons (ps_fld (pv 0) (pv 4) rfl)
    (pss_one (ps_fld (pv 0) (pv 5) rfl)))))))))), ?_⟩
  refine ⟨_, rfl, D.many, rfl, O.m1, O.m3, ?_⟩
  refine ⟨_, rfl, _, rfl, _, rfl, b, tR, us, D.many, rows, D.rws, rfl, hB, R, .of hR, hW, O.nd, O.rl, fun e he => ⟨by rw [← O.ks]; exact List.mem_map.mpr ⟨e, O.sub e he, rfl⟩, O.lt e (O.sub e he)⟩, fun H1 d ds s1 T1 => ?_⟩
  refine ⟨_, rfl, _, rfl, D.many, tM, D.marks, rfl, .of (s1 _ _ hM), O.mks, O.ml, ?_⟩
  refine ⟨_, rfl, _, rfl, le_line (show 1 ≤ 10000000 by decide), fun v hv => ?_⟩
  have s2 := s1.upd_new (o := .tup [.int ((D.rest : Nat) : Int)]) hv
  have v2 : (upd H1 v (.tup [.int ((D.rest : Nat) : Int)])) v = some (.tup (nI [D.rest])) := upd_same
  have T2 := T1.same ((Same.refl H1).upd_new (o := .tup [.int ((D.rest : Nat) : Int)]) hv)
  generalize upd H1 v (.tup [.int ((D.rest : Nat) : Int)]) = H2 at s2 v2 T2
  refine ⟨D.many, v, [D.rest], rfl, v2, (show 1 ≤ 1000 by decide), fun y hy => by rw [List.mem_singleton.mp hy]; exact O.re, fun H3 s3 => ⟨_, rfl, ifn (by decide) ?_⟩⟩
  have s03 := s2.trans s3
  have T3 := T2.same s3
  refine ⟨_, rfl, _, rfl, x, CR, dx, _, rfl, s03 _ _ hx, BR.cl, BR.nB, (by show 0 < 1000; decide), ?_⟩
  refine ⟨_, rfl, _, rfl, x, CR, dx, _, rfl, upd_same, BR.cl, BR.nS, (by show 1 < 1000; decide), ?_⟩
  rw [show putF "bed" (.ref b) [] = [(("bed" : Str), V.ref b)] from rfl, rd_put2]
  refine ⟨_, rfl, _, rfl, x, CR, dx, _, rfl, upd_same, BR.cl, BR.nC, (by show 2 < 1000; decide), ?_⟩
  rw [rd_put3]
  refine ⟨_, rfl, _, rfl, x, CR, dx, _, rfl, upd_same, BR.cl, BR.nM, (by show 3 < 1000; decide), ?_⟩
  rw [rd_put4]
  refine ⟨_, rfl, _, rfl, x, CR, dx, _, rfl, upd_same, BR.cl, BR.nO, (by show 4 < 1000; decide), ?_⟩
  rw [rd_put5]
  have kx : Kp x H3 (upd (upd (upd (upd (upd H3 x (.ins CR dx [(("bed" : Str), V.ref b)])) x (.ins CR dx [(("bed" : Str), V.ref b), ("states", .int ((D.many : Nat) : Int))])) x (.ins CR dx [(("bed" : Str), V.ref b), ("states", .int ((D.many : Nat) : Int)), ("cells", .ref d)])) x (.ins CR dx [(("bed" : Str), V.ref b), ("states", .int ((D.many : Nat) : Int)), ("cells", .ref d), ("marks", .ref tM)])) x (.ins CR dx (rdF b D.many d tM D.rest))) := (((((Kp.refl x H3).upd).upd).upd).upd).upd
  refine key _ ((Kp.same s03).trans kx) ⟨dx, d, tM, ds, upd_same, (hB.same s03).kx (s03 _ _ hx) kx, ?_, ?_⟩
  · have nx : ∀ {a : Addr} {o : HO}, H3 a = some o → (∀ C dx fs, o ≠ .ins C dx fs) → a ≠ x := fun {a} {o} h n e => by
      rw [e, s03 _ _ hx] at h
      exact n _ _ _ (Option.some.inj h).symm
    exact ⟨kx _ _ T3.at_ (nx T3.at_ fun _ _ _ e => nomatch e), T3.len, T3.nd, T3.nin, fun i n a h1 h2 => kx _ _ (T3.row i n a h1 h2) (nx (T3.row i n a h1 h2) fun _ _ _ e => nomatch e)⟩
  · exact kx _ _ (s03 _ _ hM) (ne_of (s03 _ _ hM) (s03 _ _ hx) (fun e => nomatch e))
end
def RdC (P : Program) (w : World) (K : PySem.W.Frag) (mg : Str → Option Value) (base : Heap) (C CR : Addr) (k : Nat) : Prop := mg "Reader" = some (.ref CR) ∧ ∃ fI fd ds, Mk K CR fI ∧ FnOk P w K mg base CX0 k fI fd ["self", "bed", "states", "rows", "marks", "otherwise"] (spRdI C CR) ∧ Binds K fd ["self", "bed", "states", "rows", "marks", "otherwise"] ds ∧ Vals [.int 0] ds ∧ KBn K fd ["self", "bed", "states", "rows", "marks", "otherwise"] 5 (["otherwise"] : List Str) (fun us ws => us ++ ws) (fun vs zs => vs ++ zs)
theorem pe_reader {X : Cx} {C CR : Addr} {k : Nat} {e : Expr} {es : List Expr} {t : TA} {p pos : Pos} (D : RdC X.prog X.w X.K X.mg X.base C CR k) (hr : Room (k + 1) X.A) (ha : PA X (e :: es) t) (hg : Gl X "Reader" := by rfl)
    (he : starEach (e :: es) X.env = (false, eval e X.env) :: starEach es X.env := by rfl) (hpl : (backTo pos (starEach es X.env)).any (·.1) = false := by rfl) :
    PE X (.Call (.Name "Reader" p) (e :: es) [] pos) (tMake CR (spRdI C CR) [.int 0] E0 t) := by
  obtain ⟨hm, fI, fd, ds, M, F, hb, hd, hk⟩ := D
  exact pe_make M F hr hg hm hb hd pass0 ha (by decide) he hpl
theorem pe_readerK {X : Cx} {C CR : Addr} {k : Nat} {e : Expr} {es : List Expr} {kws : List Keyword} {t tk : TA} {p pos : Pos} (D : RdC X.prog X.w X.K X.mg X.base C CR k) (hr : Room (k + 1) X.A) (ha : PA X (e :: es) t) (hkw : PK X kws tk) (hg : Gl X "Reader" := by rfl)
    (hall : (backToKw pos (keywordEach kws X.env)).all (·.1.isSome) = true := by rfl) (hks : (backToKw pos (keywordEach kws X.env)).filterMap (·.1) = (["otherwise"] : List Str) := by rfl)
    (he : starEach (e :: es) X.env = (false, eval e X.env) :: starEach es X.env := by rfl) (hpl : ((backTo pos (starEach (e :: es) X.env)).any (·.1) || (backToKw pos (keywordEach kws X.env)).any (·.1.isNone)) = false := by rfl) :
    PE X (.Call (.Name "Reader" p) (e :: es) kws pos) (tMakeK CR 4 1 (spRdI C CR) (fun vs zs => vs ++ zs) E0 t tk) := by
  obtain ⟨hm, fI, fd, ds, M, F, hb, hd, hk⟩ := D
  exact pe_makeK M F hr hg hm hk pass0 ha hkw hall hks (by decide) he hpl
def spMkRd52 (P : Program) (w : World) (C CR : Addr) : Sp := fun vs H Q _ => ∃ (b a : Addr) (rows : List Row) (D : RdD), vs = [.ref b, .ref a] ∧ BedAt C H b rows ∧ ROk 4 rows ∧ D.Ok rows ∧ LrAt P w H a D ∧ ∀ H' p, Same H H' → RdAt C CR H' p b rows D → Q (.ref p) H'
abbrev N_law_made_reader : List Str := ["bed", "reader"]
theorem sc_law_made_reader : FnScope N_law_made_reader ["bed", "reader"] (defScope s_law_made_reader) := ⟨rfl, rfl, rfl, by decide +kernel, rfl, by decide +kernel, by decide +kernel⟩
section
variable {P : Program} {w : World} {K : PySem.W.Frag} {mg : Str → Option Value} {base : Heap} {C CR : Addr}
theorem ok_mkrd52 (T : Bl mg) (c_Reader : RdC P w K mg base C CR 4) (D : Def0 K mg "_law_made_reader" s_law_made_reader) : DefOk P w K mg base CX0 6 "_law_made_reader" (spMkRd52 P w C CR) := by
  refine D.ok sc_law_made_reader (fun vs H Q E h => ?_) (fun _ _ _ _ _ _ us hl => match us, hl with | [_, _], _ => rfl) (fun f cdv A outer s H vs Q E hr h => ?_)
  · obtain ⟨b, a, rows, D, rfl, _⟩ := h
    rfl
  · obtain ⟨b, a, rows, D, rfl, hB, R, O, ⟨t, m, r, us, h1, h2, h3, h4, h5⟩, key⟩ := h
    refine ⟨_, (pss_cons (ps_if (pt_cmpR op_eq (pe_ix ix_list (pv 1) pe_int (fun _ _ => rfl)) pe_int (nomark _))
        (pss_one (ps_ret (pe_reader c_Reader (hr.mono (by decide)) (pa_cons (pv 0) (pa_cons (pe_ix ix_list (pv 1) pe_int (fun _ _ => rfl)) (pa_cons (pe_callTy call_tuple_of (by rfl) T.b_tuple (by decide +kernel) (pa_cons (pe_ix ix_list (pv 1) pe_int (fun _ _ => rfl)) pa_nil)) (pa_cons (pe_callTy call_tuple_of (by rfl) T.b_tuple (by decide +kernel) (pa_cons (pe_ix ix_list (pv 1) pe_int (fun _ _ => rfl)) pa_nil)) pa_nil)))))))
        pss_nil)
      (pss_one (ps_ret (pe_readerK c_Reader (hr.mono (by decide)) (pa_cons (pv 0) (pa_cons (pe_ix ix_list (pv 1) pe_int (fun _ _ => rfl)) (pa_cons (pe_callTy call_tuple_of (by rfl) T.b_tuple (by decide +kernel) (pa_cons (pe_ix ix_list (pv 1) pe_int (fun _ _ => rfl)) pa_nil)) (pa_cons (pe_callTy call_tuple_of (by rfl) T.b_tuple (by decide +kernel) (pa_cons (pe_ix ix_list (pv 1) pe_int (fun _ _ => rfl)) pa_nil)) pa_nil)))) (pk_cons (pe_ix ix_list (pv 1) pe_int (fun _ _ => rfl)) pk_nil))))), ?_⟩
    refine ⟨_, rfl, a, _, _, _, rfl, rfl, SqL.of h1, atI_nat (j := 4) rfl, rfl, _, rfl, ite2 (fun c => ?_) (fun c => ?_)⟩
    · have e0 : D.rest = 0 := by
        rw [veq] at c
        have := of_decide_eq_true c
        omega
      refine ⟨_, rfl, _, rfl, a, _, _, _, rfl, rfl, SqL.of h1, atI_nat (j := 0) rfl, _, rfl, a, _, _, _, rfl, rfl, SqL.of h1, atI_nat (j := 3) rfl, r, _, rfl, .inl ⟨SqL.of h4, fun tR hR => ?_⟩⟩
      have s1 := (Same.refl H).upd_new (o := .tup (us.map V.ref)) hR
      have R1 : (upd H tR (.tup (us.map V.ref))) tR = some (.tup (us.map V.ref)) := upd_same
      generalize upd H tR (.tup (us.map V.ref)) = H1 at s1 R1
      refine ⟨_, rfl, a, _, _, _, rfl, rfl, SqL.of (s1 _ _ h1), atI_nat (j := 2) rfl, m, _, rfl, .inl ⟨SqL.of (s1 _ _ h3), fun tM hM => ?_⟩⟩
      have s2 := s1.upd_new (o := .tup (nI D.marks)) hM
      have M2 : (upd H1 tM (.tup (nI D.marks))) tM = some (.tup (nI D.marks)) := upd_same
      have R2 : (upd H1 tM (.tup (nI D.marks))) tR = some (.tup (us.map V.ref)) := by rw [upd_ne (ne_of_none R1 hM)]; exact R1
      generalize upd H1 tM (.tup (nI D.marks)) = H2 at s2 M2 R2
      refine fun x dx hx hdx hne => ?_
      have s3 := (Same.refl H2).upd_new (o := .own x) hdx
      have s4 := (s3.upd_new (o := .ins CR dx []) (by rw [upd_ne (Ne.symm hne)]; exact hx))
      have s04 := s2.trans s4
      refine ⟨x, dx, b, tR, tM, us, rows, D, by rw [e0]; rfl, upd_same, hB.same s04, R, O, s4 _ _ R2, h5.keep fun t ys h => s04 _ _ h, s4 _ _ M2, fun H3 k3 hA => ⟨rfl, key H3 x (fun p o h => ?_) hA⟩⟩
      exact k3 p o (s04 _ _ h) (fun e => by rw [e] at h; rw [s2 _ _ h] at hx; cases hx)
    · refine ?_
      refine ⟨_, rfl, _, rfl, a, _, _, _, rfl, rfl, SqL.of h1, atI_nat (j := 0) rfl, _, rfl, a, _, _, _, rfl, rfl, SqL.of h1, atI_nat (j := 3) rfl, r, _, rfl, .inl ⟨SqL.of h4, fun tR hR => ?_⟩⟩
      have s1 := (Same.refl H).upd_new (o := .tup (us.map V.ref)) hR
      have R1 : (upd H tR (.tup (us.map V.ref))) tR = some (.tup (us.map V.ref)) := upd_same
      generalize upd H tR (.tup (us.map V.ref)) = H1 at s1 R1
      refine ⟨_, rfl, a, _, _, _, rfl, rfl, SqL.of (s1 _ _ h1), atI_nat (j := 2) rfl, m, _, rfl, .inl ⟨SqL.of (s1 _ _ h3), fun tM hM => ?_⟩⟩
      have s2 := s1.upd_new (o := .tup (nI D.marks)) hM
      have M2 : (upd H1 tM (.tup (nI D.marks))) tM = some (.tup (nI D.marks)) := upd_same
      have R2 : (upd H1 tM (.tup (nI D.marks))) tR = some (.tup (us.map V.ref)) := by rw [upd_ne (ne_of_none R1 hM)]; exact R1
      generalize upd H1 tM (.tup (nI D.marks)) = H2 at s2 M2 R2
      refine ⟨_, rfl, a, _, _, _, rfl, rfl, SqL.of (s2 _ _ h1), atI_nat (j := 4) rfl, rfl, rfl, fun x dx hx hdx hne => ?_⟩
      have s3 := (Same.refl H2).upd_new (o := .own x) hdx
      have s4 := (s3.upd_new (o := .ins CR dx []) (by rw [upd_ne (Ne.symm hne)]; exact hx))
      have s04 := s2.trans s4
      refine ⟨x, dx, b, tR, tM, us, rows, D, rfl, upd_same, hB.same s04, R, O, s4 _ _ R2, h5.keep fun t ys h => s04 _ _ h, s4 _ _ M2, fun H3 k3 hA => ⟨rfl, key H3 x (fun p o h => ?_) hA⟩⟩
      exact k3 p o (s04 _ _ h) (fun e => by rw [e] at h; rw [s2 _ _ h] at hx; cases hx)
end
end Sh
end
section
set_option Elab.async false
set_option linter.all false
set_option maxRecDepth 100000
set_option maxHeartbeats 4000000
namespace Sh
open PySem PySem.Spec PyProof.Rows L2
def lexB (r : Str → Nat) : List Str → List Str → Bool
  | a :: x, b :: y => if a = b then lexB r x y else decide (r a < r b)
  | _, _ => false
theorem lexB_irr (r : Str → Nat) : ∀ x, lexB r x x = false
  | [] => rfl
  | a :: x => by unfold lexB; rw [if_pos rfl]; exact lexB_irr r x
theorem lexB_trans {r : Str → Nat} : ∀ {x y z : List Str}, lexB r x y = true → lexB r y z = true → lexB r x z = true
  | [], _, _, h, _ => by unfold lexB at h; cases h
  | _ :: _, [], _, h, _ => by unfold lexB at h; cases h
  | _ :: _, _ :: _, [], _, h => by unfold lexB at h; cases h
  | a :: x, b :: y, c :: z, h1, h2 => by
    unfold lexB at h1 h2 ⊢
    by_cases e1 : a = b
    · rw [if_pos e1] at h1
      by_cases e2 : b = c
      · rw [if_pos e2] at h2
        rw [if_pos (e1.trans e2)]
        exact lexB_trans h1 h2
      · rw [if_neg e2] at h2
        rw [if_neg (fun e => e2 (e1.symm.trans e)), e1]
        exact h2
    · rw [if_neg e1] at h1
      have h1 := of_decide_eq_true h1
      by_cases e2 : b = c
      · rw [if_pos e2] at h2
        rw [if_neg (fun e => e1 (e.trans e2.symm)), ← e2]
        exact decide_eq_true h1
      · rw [if_neg e2] at h2
        have h2 := of_decide_eq_true h2
        rw [if_neg (fun e => by rw [e] at h1; omega)]
        exact decide_eq_true (by omega)
theorem lexB_tot {r : Str → Nat} {ok : Str → Prop} (inj : ∀ a b, ok a → ok b → r a = r b → a = b) : ∀ {x y : List Str}, x.length = y.length → (∀ z ∈ x, ok z) → (∀ z ∈ y, ok z) → x ≠ y → lexB r x y = true ∨ lexB r y x = true
  | [], [], _, _, _, n => absurd rfl n
  | [], _ :: _, h, _, _, _ => by cases h
  | _ :: _, [], h, _, _, _ => by cases h
  | a :: x, b :: y, h, hx, hy, n => by
    unfold lexB
    by_cases e : a = b
    · subst e
      rw [if_pos rfl, if_pos rfl]
      exact lexB_tot inj (by simpa using h) (fun z hz => hx z (List.mem_cons_of_mem _ hz)) (fun z hz => hy z (List.mem_cons_of_mem _ hz)) (fun q => n (by rw [q]))
    · rw [if_neg e, if_neg (Ne.symm e)]
      have : r a ≠ r b := fun q => e (inj a b (hx a List.mem_cons_self) (hy b List.mem_cons_self) q)
      rcases Nat.lt_or_gt_of_ne this with l | l
      · exact .inl (decide_eq_true l)
      · exact .inr (decide_eq_true l)
theorem lexB_pre {r : Str → Nat} : ∀ (u x y : List Str), lexB r (u ++ x) (u ++ y) = lexB r x y
  | [], _, _ => rfl
  | a :: u, x, y => by
    show lexB r (a :: (u ++ x)) (a :: (u ++ y)) = _
    rw [lexB, if_pos rfl]
    exact lexB_pre u x y
abbrev Cp : Type := Int × List Str
/-- the better change -/
def pB (r : Str → Nat) (a b : Cp) : Prop := a.1 < b.1 ∨ (a.1 = b.1 ∧ (a.2.length < b.2.length ∨ (a.2.length = b.2.length ∧ lexB r a.2 b.2 = true)))
theorem pB_irr {r : Str → Nat} (a : Cp) : ¬ pB r a a := by
  rintro (h | ⟨_, h | ⟨_, h⟩⟩)
  · omega
  · omega
  · rw [lexB_irr] at h
    cases h
theorem pB_trans {r : Str → Nat} {a b c : Cp} (h1 : pB r a b) (h2 : pB r b c) : pB r a c := by
  rcases h1 with h1 | ⟨e1, h1⟩
  · rcases h2 with h2 | ⟨e2, h2⟩
    · exact .inl (by omega)
    · exact .inl (by omega)
  · rcases h2 with h2 | ⟨e2, h2⟩
    · exact .inl (by omega)
    · refine .inr ⟨by omega, ?_⟩
      rcases h1 with h1 | ⟨f1, h1⟩
      · rcases h2 with h2 | ⟨f2, h2⟩
        · exact .inl (by omega)
        · exact .inl (by omega)
      · rcases h2 with h2 | ⟨f2, h2⟩
        · exact .inl (by omega)
        · exact .inr ⟨by omega, lexB_trans h1 h2⟩
theorem pB_tot {r : Str → Nat} {ok : Str → Prop} (inj : ∀ a b, ok a → ok b → r a = r b → a = b) {a b : Cp} (ha : ∀ z ∈ a.2, ok z) (hb : ∀ z ∈ b.2, ok z) (n : a ≠ b) : pB r a b ∨ pB r b a := by
  rcases Int.lt_trichotomy a.1 b.1 with h | h | h
  · exact .inl (.inl h)
  · rcases Nat.lt_trichotomy a.2.length b.2.length with l | l | l
    · exact .inl (.inr ⟨h, .inl l⟩)
    · rcases lexB_tot inj l ha hb (fun e => n (Prod.ext h e)) with q | q
      · exact .inl (.inr ⟨h, .inr ⟨l, q⟩⟩)
      · exact .inr (.inr ⟨h.symm, .inr ⟨l.symm, q⟩⟩)
    · exact .inr (.inr ⟨h.symm, .inl l⟩)
  · exact .inr (.inl h)
abbrev Tb : Type := Nat → Option Cp
abbrev Off : Type := Nat → Cp → Prop
def Bst (r : Str → Nat) (O : Off) (T : Tb) : Prop := ∀ s, match T s with
  | none => ∀ x, ¬ O s x
  | some y => O s y ∧ ∀ x, O s x → ¬ pB r x y
theorem Bst.nil (r : Str → Nat) : Bst r (fun _ _ => False) (fun _ => none) := fun _ _ h => h
def Off.add (O : Off) (s : Nat) (x : Cp) : Off := fun s' x' => O s' x' ∨ (s' = s ∧ x' = x)
def Tb.put (T : Tb) (s : Nat) (x : Cp) : Tb := fun s' => if s' = s then some x else T s'
theorem Bst.put {r : Str → Nat} {O : Off} {T : Tb} (h : Bst r O T) {s : Nat} {x : Cp} (hx : T s = none ∨ ∃ y, T s = some y ∧ pB r x y) : Bst r (O.add s x) (T.put s x) := fun s' => by
  by_cases e : s' = s
  · subst e
    unfold Tb.put
    rw [if_pos rfl]
    refine ⟨.inr ⟨rfl, rfl⟩, fun z hz => ?_⟩
    have hs := h s'
    rcases hz with hz | ⟨_, rfl⟩
    · rcases hx with n | ⟨y, hy, b⟩
      · rw [n] at hs
        exact absurd hz (hs z)
      · rw [hy] at hs
        exact fun c => hs.2 z hz (pB_trans c b)
    · exact pB_irr _
  · unfold Tb.put
    rw [if_neg e]
    have hs := h s'
    cases ht : T s' with
    | none =>
      rw [ht] at hs
      rintro z (hz | ⟨q, _⟩)
      · exact hs z hz
      · exact e q
    | some y =>
      rw [ht] at hs
      refine ⟨.inl hs.1, ?_⟩
      rintro z (hz | ⟨q, _⟩)
      · exact hs.2 z hz
      · exact absurd q e
theorem Bst.skip {r : Str → Nat} {O : Off} {T : Tb} (h : Bst r O T) {s : Nat} {x y : Cp} (hy : T s = some y) (n : ¬ pB r x y) : Bst r (O.add s x) T := fun s' => by
  have hs := h s'
  cases ht : T s' with
  | none =>
    rw [ht] at hs
    rintro z (hz | ⟨q, _⟩)
    · exact hs z hz
    · rw [q, hy] at ht
      cases ht
  | some y' =>
    rw [ht] at hs
    refine ⟨.inl hs.1, ?_⟩
    rintro z (hz | ⟨q, rfl⟩)
    · exact hs.2 z hz
    · rw [q, hy] at ht
      injection ht with ht
      rw [← ht]
      exact n
theorem Bst.uniq {r : Str → Nat} {ok : Str → Prop} (inj : ∀ a b, ok a → ok b → r a = r b → a = b) {O : Off} {T U : Tb} (hO : ∀ s x, O s x → ∀ z ∈ x.2, ok z) (h : Bst r O T) (g : Bst r O U) : T = U := by
  funext s
  have hs := h s
  have gs := g s
  cases ht : T s with
  | none =>
    rw [ht] at hs
    cases gt : U s with
    | none => rfl
    | some y =>
      rw [gt] at gs
      exact absurd gs.1 (hs y)
  | some x =>
    rw [ht] at hs
    cases gt : U s with
    | none =>
      rw [gt] at gs
      exact absurd hs.1 (gs x)
    | some y =>
      rw [gt] at gs
      by_cases e : x = y
      · rw [e]
      · rcases pB_tot inj (hO s x hs.1) (hO s y gs.1) e with q | q
        · exact absurd q (gs.2 x hs.1)
        · exact absurd q (hs.2 y gs.1)
theorem Bst.congr {r : Str → Nat} {O O' : Off} {T : Tb} (h : Bst r O T) (e : ∀ s x, O s x ↔ O' s x) : Bst r O' T := by
  have : O = O' := by
    funext s x
    exact propext (e s x)
  rw [← this]
  exact h
inductive Pick : List Tb → List Nat → List Cp → Prop
  | nil : Pick [] [] []
  | cons {T : Tb} {Ts : List Tb} {s : Nat} {ss : List Nat} {x : Cp} {xs : List Cp} : T s = some x → Pick Ts ss xs → Pick (T :: Ts) (s :: ss) (x :: xs)
theorem Pick.uniq {Ts : List Tb} {ss : List Nat} {xs ys : List Cp} (h : Pick Ts ss xs) (g : Pick Ts ss ys) : xs = ys := by
  induction h generalizing ys with
  | nil => cases g; rfl
  | cons h _ ih =>
    cases g with
    | cons g g' =>
      rw [h] at g
      injection g with g
      rw [g, ih g']
theorem Pick.len {Ts : List Tb} {ss : List Nat} {xs : List Cp} (h : Pick Ts ss xs) : ss.length = Ts.length ∧ xs.length = Ts.length := by
  induction h with
  | nil => exact ⟨rfl, rfl⟩
  | cons _ _ ih => exact ⟨by rw [List.length_cons, List.length_cons, ih.1], by rw [List.length_cons, List.length_cons, ih.2]⟩
theorem Pick.at {Ts : List Tb} {ss : List Nat} {xs : List Cp} (h : Pick Ts ss xs) : ∀ {i : Nat} {T : Tb} {s : Nat}, Ts[i]? = some T → ss[i]? = some s → ∃ x, xs[i]? = some x ∧ T s = some x := by
  induction h with
  | nil => intro i T s h; simp at h
  | cons h _ ih =>
    intro i T s h1 h2
    cases i with
    | zero =>
      cases h1
      cases h2
      exact ⟨_, rfl, h⟩
    | succ i => exact ih h1 h2
theorem Pick.of {Ts : List Tb} {ss : List Nat} (hl : ss.length = Ts.length) (h : ∀ (i : Nat) (T : Tb) (s : Nat), Ts[i]? = some T → ss[i]? = some s → (T s).isSome = true) : ∃ xs, Pick Ts ss xs := by
  induction Ts generalizing ss with
  | nil =>
    have : ss = [] := List.eq_nil_of_length_eq_zero hl
    subst this
    exact ⟨[], .nil⟩
  | cons T Ts ih =>
    cases ss with
    | nil => cases hl
    | cons s ss =>
      obtain ⟨xs, hx⟩ := ih (by simpa using hl) fun i T s h1 h2 => h (i + 1) T s h1 h2
      obtain ⟨x, hx0⟩ := Option.isSome_iff_exists.mp (h 0 T s rfl rfl)
      exact ⟨x :: xs, .cons hx0 hx⟩
def sumC (xs : List Cp) : Int := (xs.map (·.1)).sum
def catP (xs : List Cp) : List Str := (xs.map (·.2)).flatten
def OLeaf (rows : List Row) (D : RdD) (cut : Int) : Off := fun s x => ∃ q ∈ rows, q.2 = 0 ∧ s = D.stp q.1 [] ∧ x = (cut, [q.1])
def OStep (D : RdD) (sws : List Swap) (e : Str) (Ts : List Tb) : Off := fun s x => ∃ ss xs y k, Pick Ts ss xs ∧ swp sws e y = some k ∧ s = D.stp y ss ∧ x = (k + sumC xs, y :: catP xs)
def OKn (rows : List Row) (D : RdD) (cut : Int) (sws : List Swap) (e : Str) (Ts : List Tb) : Off := fun s x => OLeaf rows D cut s x ∨ OStep D sws e Ts s x
/-- what holds of a table -/
structure TbOk (rows : List Row) (D : RdD) (n : Nat) (T : Tb) : Prop where
  st : ∀ s x, T s = some x → s < D.many
  nm : ∀ s x, T s = some x → ∀ z ∈ x.2, HasN rows z
  ln : ∀ s x, T s = some x → x.2.length ≤ n
  on : ∀ s x, T s = some x → OneT (wR rows) x.2
inductive TbsOk (rows : List Row) (D : RdD) : List Nat → List Tb → Prop
  | nil : TbsOk rows D [] []
  | cons {n : Nat} {ns : List Nat} {T : Tb} {Ts : List Tb} : TbOk rows D n T → TbsOk rows D ns Ts → TbsOk rows D (n :: ns) (T :: Ts)
theorem TbsOk.split {rows : List Row} {D : RdD} : ∀ {A B : List Tb} {ns : List Nat}, TbsOk rows D ns (A ++ B) → ∃ n1 n2, ns = n1 ++ n2 ∧ TbsOk rows D n1 A ∧ TbsOk rows D n2 B
  | [], B, ns, h => ⟨[], ns, rfl, .nil, h⟩
  | T :: A, B, _, .cons h1 h2 => by
    obtain ⟨n1, n2, rfl, g1, g2⟩ := TbsOk.split h2
    exact ⟨_ :: n1, n2, rfl, .cons h1 g1, g2⟩
theorem pick_ok {rows : List Row} {D : RdD} {Ts : List Tb} {ss : List Nat} {xs : List Cp} (h : Pick Ts ss xs) : ∀ {ns : List Nat}, TbsOk rows D ns Ts → (∀ s ∈ ss, s < D.many) ∧ (∀ z ∈ catP xs, HasN rows z) ∧ (catP xs).length ≤ ns.sum ∧ ∀ (r : List Str) (m : Nat), Mth.forest (wR rows) (catP xs ++ r) (xs.length + m) = Mth.forest (wR rows) r m := by
  induction h with
  | nil =>
    intro ns h
    cases h
    exact ⟨fun s h => (nomatch h), fun z h => (nomatch h), Nat.le_refl _, fun r m => by show Mth.forest _ ([] ++ r) (0 + m) = _; rw [List.nil_append, Nat.zero_add]⟩
  | @cons T Ts s ss x xs h _ ih =>
    intro ns g
    cases g with
    | @cons n ns _ _ g1 g2 =>
      obtain ⟨i1, i2, i3, i4⟩ := ih g2
      have ec : catP (x :: xs) = x.2 ++ catP xs := by
        unfold catP
        rw [List.map_cons, List.flatten_cons]
      refine ⟨fun a ha => ?_, fun z hz => ?_, ?_, fun r m => ?_⟩
      · rcases List.mem_cons.mp ha with rfl | ha
        · exact g1.st _ _ h
        · exact i1 a ha
      · rw [ec] at hz
        rcases List.mem_append.mp hz with hz | hz
        · exact g1.nm _ _ h z hz
        · exact i2 z hz
      · rw [ec, List.length_append, List.sum_cons]
        have := g1.ln _ _ h
        omega
      · rw [ec, List.append_assoc, List.length_cons, show xs.length + 1 + m = (xs.length + m) + 1 by omega]
        rw [g1.on _ _ h (catP xs ++ r) (xs.length + m)]
        exact i4 r m
theorem swp_has {rows : List Row} {sws : List Swap} (W : GoodB rows sws sws.length) {z y : Str} {c : Int} (hz : HasN rows z) (h : swp sws z y = some c) : HasN rows y := by
  unfold swp at h
  split at h
  · rename_i e
    rw [← e]
    exact hz
  · cases hf : sws.find? (fun q => decide (q.1 = z ∧ q.2.1 = y)) with
    | none => rw [hf] at h; cases h
    | some q =>
      obtain ⟨i, hi⟩ := List.mem_iff_getElem?.mp (List.mem_of_find?_eq_some hf)
      have g := W i q (List.getElem?_eq_some_iff.mp hi).1 hi
      have hp := List.find?_some hf
      have e : q.1 = z ∧ q.2.1 = y := of_decide_eq_true hp
      rw [← e.2]
      exact g.b
section
variable {rows : List Row} {D : RdD} {cut : Int} {sws : List Swap} {r : Str → Nat}
theorem knot_ok (R : ROk 4 rows) (O : D.Ok rows) (W : GoodB rows sws sws.length) {e : Str} (he : HasN rows e) {Ts : List Tb} {ns : List Nat} (h : TbsOk rows D ns Ts) (hl : Ts.length = wR rows e) {s : Nat} {x : Cp} (hx : OKn rows D cut sws e Ts s x) :
    s < D.many ∧ (∀ z ∈ x.2, HasN rows z) ∧ x.2.length ≤ 1 + ns.sum ∧ OneT (wR rows) x.2 := by
  rcases hx with ⟨q, hq, q0, rfl, rfl⟩ | ⟨ss, xs, y, k, hp, hs, rfl, rfl⟩
  · have w0 : wR rows q.1 = 0 := by rw [wR_of R hq, q0]; rfl
    refine ⟨O.stp_lt R ⟨q, hq, rfl⟩ w0.symm (fun s h => nomatch h), fun z hz => ?_, ?_, fun t m => ?_⟩
    · rw [List.mem_singleton.mp hz]
      exact ⟨q, hq, rfl⟩
    · show 1 ≤ _
      omega
    · show Mth.forest (wR rows) t (wR rows q.1 + m) = _
      rw [w0, Nat.zero_add]
  · obtain ⟨p1, p2, p3, p4⟩ := pick_ok hp h
    obtain ⟨l1, l2⟩ := hp.len
    have hy := swp_has W he hs
    have wy := swp_wd W hs
    refine ⟨O.stp_lt R hy (by omega) p1, fun z hz => ?_, ?_, fun t m => ?_⟩
    · rcases List.mem_cons.mp hz with rfl | hz
      · exact hy
      · exact p2 z hz
    · show (catP xs).length + 1 ≤ _
      omega
    · show Mth.forest (wR rows) (catP xs ++ t) (wR rows y + m) = _
      rw [← wy, ← hl, ← l2]
      exact p4 t m
theorem tb_ok (R : ROk 4 rows) (O : D.Ok rows) (W : GoodB rows sws sws.length) {e : Str} (he : HasN rows e) {Ts : List Tb} {ns : List Nat} (h : TbsOk rows D ns Ts) (hl : Ts.length = wR rows e) {T : Tb} (b : Bst r (OKn rows D cut sws e Ts) T) : TbOk rows D (1 + ns.sum) T := by
  have at_ : ∀ s x, T s = some x → OKn rows D cut sws e Ts s x := fun s x hx => by
    have := b s
    rw [hx] at this
    exact this.1
  exact ⟨fun s x hx => (knot_ok R O W he h hl (at_ s x hx)).1, fun s x hx => (knot_ok R O W he h hl (at_ s x hx)).2.1, fun s x hx => (knot_ok R O W he h hl (at_ s x hx)).2.2.1, fun s x hx => (knot_ok R O W he h hl (at_ s x hx)).2.2.2⟩
/-- the tables of a row's trees -/
inductive TStk (rows : List Row) (D : RdD) (cut : Int) (sws : List Swap) (r : Str → Nat) : List Str → List Tb → Prop
  | nil : TStk rows D cut sws r [] []
  | cons {e : Str} {l : List Str} {below st : List Tb} {T : Tb} : TStk rows D cut sws r l (below ++ st) → below.length = wR rows e → Bst r (OKn rows D cut sws e below) T → TStk rows D cut sws r (e :: l) (T :: st)
theorem TStk.ok (R : ROk 4 rows) (O : D.Ok rows) (W : GoodB rows sws sws.length) {l : List Str} {S : List Tb} (h : TStk rows D cut sws r l S) : (∀ z ∈ l, HasN rows z) → ∃ ns, TbsOk rows D ns S ∧ ns.sum ≤ l.length := by
  induction h with
  | nil => exact fun _ => ⟨[], .nil, Nat.le_refl _⟩
  | @cons e l below st T _ hl hb ih =>
    intro hn
    obtain ⟨ns, h1, h2⟩ := ih fun z hz => hn z (List.mem_cons_of_mem _ hz)
    obtain ⟨n1, n2, rfl, g1, g2⟩ := h1.split
    rw [List.sum_append] at h2
    refine ⟨(1 + n1.sum) :: n2, .cons (tb_ok R O W (hn e List.mem_cons_self) g1 hl hb) g2, ?_⟩
    rw [List.sum_cons, List.length_cons]
    omega
theorem TStk.forest {l : List Str} {S : List Tb} (h : TStk rows D cut sws r l S) : Mth.forest (wR rows) l S.length = true := by
  induction h with
  | nil => rfl
  | @cons e l below st T _ hl _ ih =>
    rw [List.length_append, hl] at ih
    exact ih
theorem TStk.uniq (R : ROk 4 rows) (O : D.Ok rows) (W : GoodB rows sws sws.length) (inj : ∀ a b, HasN rows a → HasN rows b → r a = r b → a = b) {l : List Str} {S : List Tb} (h : TStk rows D cut sws r l S) : ∀ {S' : List Tb}, TStk rows D cut sws r l S' → (∀ z ∈ l, HasN rows z) → S = S' := by
  induction h with
  | nil =>
    intro S' h _
    cases h
    rfl
  | @cons e l below st T h hl hb ih =>
    intro S' g hn
    cases g with
    | @cons _ _ below' st' T' g gl gb =>
      have hn' := fun z hz => hn z (List.mem_cons_of_mem _ hz)
      have e1 := ih g hn'
      obtain ⟨e2, e3⟩ := List.append_inj e1 (hl.trans gl.symm)
      subst e2 e3
      obtain ⟨ns, h1, _⟩ := h.ok R O W hn'
      obtain ⟨n1, _, _, g1, _⟩ := h1.split
      rw [Bst.uniq inj (fun s x hx => (knot_ok R O W (hn e List.mem_cons_self) g1 hl hx).2.1) hb gb]
/-- the answer -/
def FinA (r : Str → Nat) (ms : List Nat) (T : Tb) (o : Option Cp) : Prop := match o with
  | none => ∀ m ∈ ms, T m = none
  | some y => (∃ m ∈ ms, T m = some y) ∧ ∀ m ∈ ms, ∀ x, T m = some x → ¬ pB r x y
def AnsIs (rows : List Row) (D : RdD) (cut : Int) (sws : List Swap) (r : Str → Nat) (l : List Str) (o : Option Cp) : Prop := ∃ T, TStk rows D cut sws r l [T] ∧ FinA r D.marks T o
theorem AnsIs.uniq (R : ROk 4 rows) (O : D.Ok rows) (W : GoodB rows sws sws.length) (inj : ∀ a b, HasN rows a → HasN rows b → r a = r b → a = b) {l : List Str} (hn : ∀ z ∈ l, HasN rows z) {o o' : Option Cp} (h : AnsIs rows D cut sws r l o) (g : AnsIs rows D cut sws r l o') : o = o' := by
  obtain ⟨T, h1, h2⟩ := h
  obtain ⟨T', g1, g2⟩ := g
  have e := h1.uniq R O W inj g1 hn
  injection e with e
  subst e
  obtain ⟨ns, k1, _⟩ := h1.ok R O W hn
  cases k1 with
  | cons k _ =>
    cases o with
    | none =>
      cases o' with
      | none => rfl
      | some y =>
        obtain ⟨⟨m, hm, ht⟩, _⟩ := g2
        rw [h2 m hm] at ht
        cases ht
    | some x =>
      obtain ⟨⟨m, hm, ht⟩, hb⟩ := h2
      cases o' with
      | none =>
        rw [g2 m hm] at ht
        cases ht
      | some y =>
        obtain ⟨⟨m', hm', ht'⟩, gb⟩ := g2
        by_cases c : x = y
        · rw [c]
        · rcases pB_tot inj (k.nm m x ht) (k.nm m' y ht') c with q | q
          · exact absurd q (gb m hm x ht)
          · exact absurd q (hb m' hm' y ht')
end
theorem forest_suf {α : Type} {w : α → Nat} : ∀ {a b : List α} {k : Nat}, Mth.forest w (a ++ b) k = true → ∃ n, Mth.forest w b n = true
  | [], _, k, h => ⟨k, h⟩
  | _ :: _, _, 0, h => by cases h
  | z :: a, b, k + 1, h => forest_suf (a := a) (b := b) (k := w z + k) h
end Sh
end
section
set_option Elab.async false
set_option linter.all false
set_option maxRecDepth 100000
set_option maxHeartbeats 8000000
namespace Sh
open PySem PySem.Spec PyProof.Rows L2
open C8 (pss_cut tCut)
open Evl (ixN_nat)
def intL (es : List (Nat × Addr)) : List (Key × V) := es.map fun e => (.inl ((e.1 : Nat) : Int), .ref e.2)
theorem inl_iff {a b : Nat} : (Sum.inl ((a : Nat) : Int) : Key) = Sum.inl ((b : Nat) : Int) ↔ a = b := ⟨fun h => by injection h with h; omega, fun h => by rw [h]⟩
theorem intL_in {es : List (Nat × Addr)} (nd : (es.map (·.1)).Nodup) {s : Nat} {a : Addr} (h : (s, a) ∈ es) : valV (intL es) (.inl ((s : Nat) : Int)) = some (.ref a) := by
  induction es with
  | nil => cases h
  | cons e es ih =>
    rw [List.map_cons] at nd
    obtain ⟨n1, n2⟩ := List.nodup_cons.mp nd
    rcases List.mem_cons.mp h with q | q
    · subst q
      exact valV_pos rfl
    · show valV ((_, _) :: intL es) _ = _
      rw [valV_neg (fun c => n1 (List.mem_map.mpr ⟨(s, a), q, (inl_iff.mp c).symm⟩))]
      exact ih n2 q
theorem intL_no {es : List (Nat × Addr)} {s : Nat} (h : s ∉ es.map (·.1)) : valV (intL es) (.inl ((s : Nat) : Int)) = none := by
  unfold valV
  rw [Option.map_eq_none_iff, List.find?_eq_none]
  intro x hx e
  unfold intL at hx
  obtain ⟨q, hq, rfl⟩ := List.mem_map.mp hx
  have e : (Sum.inl ((q.1 : Nat) : Int) : Key) = Sum.inl ((s : Nat) : Int) := of_decide_eq_true e
  exact h (List.mem_map.mpr ⟨q, hq, inl_iff.mp e⟩)
theorem intL_put_new {es : List (Nat × Addr)} {s : Nat} {a : Addr} (h : s ∉ es.map (·.1)) : putK (intL es) (.inl ((s : Nat) : Int)) (.ref a) = intL (es ++ [(s, a)]) := by
  rw [putK_new _ (intL_no h)]
  unfold intL
  rw [List.map_append]
  rfl
theorem intL_put_old {es : List (Nat × Addr)} {s : Nat} {a : Addr} (h : s ∈ es.map (·.1)) : putK (intL es) (.inl ((s : Nat) : Int)) (.ref a) = intL (es.map fun e => if e.1 = s then (e.1, a) else e) := by
  unfold putK
  rw [if_pos]
  · unfold intL
    rw [List.map_map, List.map_map]
    refine List.map_congr_left fun e _ => ?_
    show (if (Sum.inl ((e.1 : Nat) : Int) : Key) = Sum.inl ((s : Nat) : Int) then _ else _) = _
    by_cases c : e.1 = s
    · rw [if_pos (inl_iff.mpr c)]
      show _ = (Sum.inl (((if e.1 = s then (e.1, a) else e).1 : Nat) : Int), V.ref (if e.1 = s then (e.1, a) else e).2)
      rw [if_pos c]
    · rw [if_neg (fun q => c (inl_iff.mp q))]
      show _ = (Sum.inl (((if e.1 = s then (e.1, a) else e).1 : Nat) : Int), V.ref (if e.1 = s then (e.1, a) else e).2)
      rw [if_neg c]
  · rw [List.any_eq_true]
    obtain ⟨e, he, q⟩ := List.mem_map.mp h
    exact ⟨_, List.mem_map.mpr ⟨e, he, rfl⟩, decide_eq_true (inl_iff.mpr q)⟩
theorem nd_lt {l : List Nat} {n : Nat} (nd : l.Nodup) (h : ∀ s ∈ l, s < n) : l.length ≤ n := by
  have := List.Nodup.length_le_of_subset nd (l₂ := List.range n) (fun s hs => List.mem_range.mpr (h s hs))
  rwa [List.length_range] at this
/-- a dict by states -/
def DtAt {α : Type} (Vl : Hp → Addr → α → Prop) (H : Hp) (d : Addr) (T : Nat → Option α) : Prop := ∃ es : List (Nat × Addr), H d = some (.dK (intL es)) ∧ (es.map (·.1)).Nodup ∧ (∀ s ∈ es.map (·.1), s < 3) ∧ (∀ e ∈ es, ∃ x, T e.1 = some x ∧ Vl H e.2 x) ∧ ∀ s x, T s = some x → s ∈ es.map (·.1)
theorem DtAt.keep {α : Type} {Vl : Hp → Addr → α → Prop} {H H' : Hp} {d : Addr} {T : Nat → Option α} (h : DtAt Vl H d T) (hd : H' d = H d) (k : ∀ a x, Vl H a x → Vl H' a x) : DtAt Vl H' d T := by
  obtain ⟨es, h1, h2, h3, h4, h5⟩ := h
  exact ⟨es, by rw [hd]; exact h1, h2, h3, fun e he => by
    obtain ⟨x, hx, hv⟩ := h4 e he
    exact ⟨x, hx, k _ _ hv⟩, h5⟩
theorem DtAt.nil {α : Type} {Vl : Hp → Addr → α → Prop} {H : Hp} {d : Addr} (h : H d = some (.dK [])) : DtAt Vl H d (fun _ => none) := ⟨[], h, List.nodup_nil, fun s h => (nomatch h), fun e h => (nomatch h), fun s x h => (nomatch h)⟩
theorem DtAt.get {α : Type} {Vl : Hp → Addr → α → Prop} {H : Hp} {d : Addr} {T : Nat → Option α} (h : DtAt Vl H d T) {s : Nat} {x : α} (hx : T s = some x) : ∃ a, DGet H d (.int ((s : Nat) : Int)) (some (.ref a)) ∧ Vl H a x := by
  obtain ⟨es, h1, h2, h3, h4, h5⟩ := h
  obtain ⟨e, he, rfl⟩ := List.mem_map.mp (h5 s x hx)
  obtain ⟨y, hy, hv⟩ := h4 e he
  rw [hx] at hy
  injection hy with hy
  subst hy
  refine ⟨e.2, ?_, hv⟩
  have := DGet.k (k := .inl ((e.1 : Nat) : Int)) h1
  rw [intL_in h2 he] at this
  exact this
theorem DtAt.no {α : Type} {Vl : Hp → Addr → α → Prop} {H : Hp} {d : Addr} {T : Nat → Option α} (h : DtAt Vl H d T) {s : Nat} (hx : T s = none) : DGet H d (.int ((s : Nat) : Int)) none := by
  obtain ⟨es, h1, h2, h3, h4, h5⟩ := h
  have := DGet.k (k := .inl ((s : Nat) : Int)) h1
  rw [intL_no] at this
  · exact this
  · intro hm
    obtain ⟨e, he, q⟩ := List.mem_map.mp hm
    obtain ⟨y, hy, _⟩ := h4 e he
    have q : e.1 = s := q
    rw [q, hx] at hy
    cases hy
theorem DtAt.put {α : Type} {Vl : Hp → Addr → α → Prop} {H : Hp} {d a : Addr} {T : Nat → Option α} (h : DtAt Vl H d T) {s : Nat} {x : α} (hs : s < 3) (hv : Vl H a x) (k : ∀ o a x, Vl H a x → Vl (upd H d o) a x) :
    ∃ o, DPut H d (.int ((s : Nat) : Int)) (.ref a) (upd H d o) ∧ DtAt Vl (upd H d o) d (fun s' => if s' = s then some x else T s') := by
  obtain ⟨es, h1, h2, h3, h4, h5⟩ := h
  have hl : (intL es).length < sizeLine := by
    unfold intL
    rw [List.length_map]
    have := nd_lt h2 h3
    rw [List.length_map] at this
    exact lt_line (by omega)
  refine ⟨_, DPut.k (k := .inl ((s : Nat) : Int)) h1 hl, ?_⟩
  by_cases hm : s ∈ es.map (·.1)
  · rw [intL_put_old hm]
    have em : (es.map fun e => if e.1 = s then (e.1, a) else e).map (·.1) = es.map (·.1) := by
      rw [List.map_map]
      refine List.map_congr_left fun e _ => ?_
      show (if e.1 = s then (e.1, a) else e).1 = e.1
      split <;> rfl
    refine ⟨_, upd_same, by rw [em]; exact h2, by rw [em]; exact h3, fun e he => ?_, fun t y hy => ?_⟩
    · obtain ⟨q, hq, rfl⟩ := List.mem_map.mp he
      by_cases c : q.1 = s
      · rw [if_pos c]
        exact ⟨x, by show (if q.1 = s then _ else _) = _; rw [if_pos c], k _ _ _ hv⟩
      · rw [if_neg c]
        obtain ⟨y, hy, hw⟩ := h4 q hq
        exact ⟨y, by show (if q.1 = s then _ else _) = _; rw [if_neg c]; exact hy, k _ _ _ hw⟩
    · rw [em]
      by_cases c : t = s
      · rw [c]
        exact hm
      · have hy : (if t = s then _ else T t) = some y := hy
        rw [if_neg c] at hy
        exact h5 t y hy
  · rw [intL_put_new hm]
    refine ⟨_, upd_same, ?_, fun t ht => ?_, fun e he => ?_, fun t y hy => ?_⟩
    · rw [List.map_append]
      exact List.nodup_append.mpr ⟨h2, by simp, fun u hu v hv' e => by
        rw [List.mem_singleton.mp hv'] at e
        have e : u = s := e
        exact hm (e ▸ hu)⟩
    · rw [List.map_append] at ht
      rcases List.mem_append.mp ht with q | q
      · exact h3 t q
      · rw [List.mem_singleton.mp q]
        exact hs
    · rcases List.mem_append.mp he with q | q
      · have c : e.1 ≠ s := fun c => hm (List.mem_map.mpr ⟨e, q, c⟩)
        obtain ⟨y, hy, hw⟩ := h4 e q
        exact ⟨y, by show (if e.1 = s then _ else _) = _; rw [if_neg c]; exact hy, k _ _ _ hw⟩
      · rw [List.mem_singleton.mp q]
        exact ⟨x, by show (if s = s then _ else _) = _; rw [if_pos rfl], k _ _ _ hv⟩
    · rw [List.map_append]
      by_cases c : t = s
      · rw [c]
        exact List.mem_append_right _ List.mem_cons_self
      · have hy : (if t = s then _ else T t) = some y := hy
        rw [if_neg c] at hy
        exact List.mem_append_left _ (h5 t y hy)
def rkS (rows : List Row) (z : Str) : Nat := (rows.map (·.1)).idxOf z
theorem rkS_inj {rows : List Row} : ∀ a b, HasN rows a → HasN rows b → rkS rows a = rkS rows b → a = b := fun a b ha hb h => by
  obtain ⟨p, hp, rfl⟩ := ha
  obtain ⟨q, hq, rfl⟩ := hb
  unfold rkS at h
  have l1 : (rows.map (·.1)).idxOf p.1 < (rows.map (·.1)).length := List.idxOf_lt_length_of_mem (List.mem_map.mpr ⟨p, hp, rfl⟩)
  have l2 : (rows.map (·.1)).idxOf q.1 < (rows.map (·.1)).length := List.idxOf_lt_length_of_mem (List.mem_map.mpr ⟨q, hq, rfl⟩)
  have e1 := List.getElem_idxOf l1
  have e2 := List.getElem_idxOf l2
  rw [← e1, ← e2]
  congr 1
theorem rk_get {rows : List Row} {m : Int} (R : ROk m rows) {H : Hp} {a : Addr} (h : H a = some (.dK (rkL (rows.map (·.1))))) {z : Str} (hz : HasN rows z) : DGet H a (.str z) (some (.int ((rkS rows z : Nat) : Int))) := by
  obtain ⟨q, hq, rfl⟩ := hz
  have l1 : (rows.map (·.1)).idxOf q.1 < (rows.map (·.1)).length := List.idxOf_lt_length_of_mem (List.mem_map.mpr ⟨q, hq, rfl⟩)
  have e1 := List.getElem_idxOf l1
  have := DGet.k (k := .inr q.1) h
  have v := valV_rk R.nd l1
  rw [e1] at v
  rw [v] at this
  exact this
theorem rkL_snoc (ns : List Str) (n : Str) : rkL (ns ++ [n]) = rkL ns ++ [(.inr n, .int ((ns.length : Nat) : Int))] := by
  unfold rkL
  rw [List.zipIdx_append, List.map_append]
  simp
theorem rkL_none {ns : List Str} {n : Str} (h : n ∉ ns) : valV (rkL ns) (.inr n) = none := valV_none fun kv hk e => by
  obtain ⟨q, hq, rfl⟩ := List.mem_map.mp hk
  have e : q.1 = n := inr_iff.mp e
  exact h (e ▸ (List.mem_zipIdx' hq).2 ▸ List.getElem_mem _)
theorem sV_get {l : List Str} {i : Nat} {z : Str} (h : l[i]? = some z) : (sV l)[i]? = some (.str z) := by
  unfold sV
  rw [List.getElem?_map, h]
  rfl
theorem tq_upd {H : Hp} {p d : Addr} {xs : List V} {kvs : List (Key × V)} {o : HO} (h : Tq H p xs) (hd : H d = some (.dK kvs)) : Tq (upd H d o) p xs := by
  rcases h with h | ⟨b, h⟩
  · exact .inl (by rw [upd_ne (ne_of h hd (fun e => nomatch e))]; exact h)
  · exact .inr ⟨b, by rw [upd_ne (ne_of h hd (fun e => nomatch e))]; exact h⟩
def spRank52 : Sp := fun vs H Q _ => ∃ (r : Addr) (rows : List Row), vs = [.ref r] ∧ RowsAt H r rows ∧ ROk 4 rows ∧ ∀ H' a, Same H H' → H' a = some (.dK (rkL (rows.map (·.1)))) → Q (.ref a) H'
def spLess52 : Sp := fun vs H Q _ => ∃ (a p q : Addr) (rows : List Row) (x y : List Str), vs = [.ref a, .ref p, .ref q] ∧ H a = some (.dK (rkL (rows.map (·.1)))) ∧ ROk 4 rows ∧ Tq H p (sV x) ∧ Tq H q (sV y) ∧ (∀ z ∈ x, HasN rows z) ∧ (∀ z ∈ y, HasN rows z) ∧ x.length ≤ 5000 ∧ y.length ≤ 5000 ∧ Q (.bl (decide (x.length < y.length ∨ (x.length = y.length ∧ lexB (rkS rows) x y = true)))) H
def spSteps52 : Sp := fun vs H Q _ => ∃ (r l : Addr) (rows : List Row) (sws : List Swap), vs = [.ref r, .ref l] ∧ RowsAt H r rows ∧ ROk 4 rows ∧ SwsAt H l sws ∧ sws.length ≤ 6 ∧ ∀ H' a, Same H H' → SwsAt H' a ((rows.map fun q => (q.1, q.1, (0 : Int))) ++ sws) → Q (.ref a) H'
abbrev N_law_rank : List Str := ["kinds", "found", "place"]
theorem sc_law_rank : FnScope N_law_rank ["kinds"] (defScope s_law_rank) := ⟨rfl, rfl, rfl, by decide +kernel, rfl, by decide +kernel, by decide +kernel⟩
abbrev N_law_lesser : List Str := ["rank", "one", "two", "place"]
theorem sc_law_lesser : FnScope N_law_lesser ["rank", "one", "two"] (defScope s_law_lesser) := ⟨rfl, rfl, rfl, by decide +kernel, rfl, by decide +kernel, by decide +kernel⟩
abbrev N_law_steps : List Str := ["kinds", "swaps", "found", "pair"]
theorem sc_law_steps : FnScope N_law_steps ["kinds", "swaps"] (defScope s_law_steps) := ⟨rfl, rfl, rfl, by decide +kernel, rfl, by decide +kernel, by decide +kernel⟩
section
variable {P : Program} {w : World} {K : PySem.W.Frag} {mg : Str → Option Value} {base : Heap}
theorem ok_rank52 (T : Bl mg) (D : Def0 K mg "_law_rank" s_law_rank) : DefOk P w K mg base CX0 1 "_law_rank" spRank52 := by
  refine D.ok sc_law_rank (fun vs H Q E h => ?_) (fun _ _ _ _ _ _ us hl => match us, hl with | [_], _ => rfl) (fun f cdv A outer s H vs Q E hr h => ?_)
  · obtain ⟨r, rows, rfl, _⟩ := h
    rfl
  · obtain ⟨r, rows, rfl, ⟨ts, hr0, hT⟩, R, k⟩ := h
    have hu := hu_of hr
    have r4 := R.len
    refine ⟨_, (pss_cons (ps_set (i := 1) sc_law_rank.nd rfl (Or.inl rfl) pe_dnewK)
      (pss_cons (ps_for PassesOwn.never rfl (pi_range1 (by rfl) T.b_range (pa_cons (pe_callB call_len_seq (by rfl) T.b_len boot_len (pa_cons (pv 0) pa_nil)) pa_nil)) (pg_name (i := 2) sc_law_rank.nd rfl (Or.inl rfl))
        (pss_one (ps_dput hu (pv 1) (pe_ix ix_tup (pe_ix ix_list (pv 0) (pv 2) (fun _ _ => rfl)) pe_int (fun _ _ => rfl)) (pv 2) rfl)))
      (pss_one (ps_ret (pv 1))))), ?_⟩
    intro d hd
    have s1 := (Same.refl H).upd_new (o := .dK []) hd
    have d1 : (upd H d (.dK [])) d = some (.dK []) := upd_same
    generalize upd H d (.dK []) = H1 at s1 d1
    refine ⟨_, rfl, r, _, rfl, .inl (SqL.of (s1 _ _ hr0)), _, rfl, by rw [List.length_map, hT.1]; omega, by rw [List.length_map, hT.1]; omega, ?_⟩
    rw [List.length_map, Int.toNat_natCast, hT.1]
    refine for_range (n := rows.length) (fun i σ H' => ∃ x2 : Option V, σ = [some (.ref r), some (.ref d), x2] ∧ Same H H' ∧ H' d = some (.dK (rkL ((rows.map (·.1)).take i))))
      ⟨none, rfl, s1, d1⟩ ?_ ?_
    · rintro i σ H2 hi ⟨x2, rfl, s2, d2⟩
      have e0 : (0 : Int) + (i : Nat) = ((i : Nat) : Int) := by omega
      rw [e0]
      have hit : i < ts.length := by rw [hT.1]; exact hi
      have ht := List.getElem?_eq_getElem hit
      have hq := List.getElem?_eq_getElem hi
      have hn : (rows.map (·.1))[i]? = some (rows[i]).1 := by rw [List.getElem?_map, hq]; rfl
      have htu := s2 _ _ (hT.2 i ts[i] rows[i] ht hq)
      generalize ts[i] = t at ht htu
      generalize rows[i] = q at hq hn htu
      have ll : ((rows.map (·.1)).take i).length = i := by rw [List.length_take, List.length_map]; omega
      refine ⟨_, rfl, _, rfl, _, rfl, _, rfl, r, _, _, _, rfl, rfl, SqL.of (s2 _ _ hr0), at_ofG (j := i) rfl (by rw [List.getElem?_map, ht]; rfl), t, _, _, _, rfl, rfl, SqT.of htu, atI_nat (j := 0) rfl, d, _, rfl, DPut.k (k := .inr q.1) d2 ?_, ?_⟩
      · unfold rkL
        rw [List.length_map, List.length_zipIdx, ll]
        exact lt_line (by omega)
      · refine ⟨_, rfl, s2.upd_own hd, ?_⟩
        rw [upd_same, putK_new _ (rkL_none fun hm => nd_take R.nd (i := i) (by rw [List.length_map]; exact hi) (by
          obtain ⟨l1, e1⟩ := List.getElem?_eq_some_iff.mp hn
          rw [e1]
          exact hm)), ← take_snoc hn, rkL_snoc, ll]
    · rintro σ H2 ⟨x2, rfl, s2, d2⟩
      rw [List.take_of_length_le (by rw [List.length_map]; exact Nat.le_refl _)] at d2
      exact ⟨_, rfl, k _ _ s2 d2⟩
theorem ok_less52 (T : Bl mg) (D : Def0 K mg "_law_lesser" s_law_lesser) : DefOk P w K mg base CX0 1 "_law_lesser" spLess52 := by
  refine D.ok sc_law_lesser (fun vs H Q E h => ?_) (fun _ _ _ _ _ _ us hl => match us, hl with | [_, _, _], _ => rfl) (fun f cdv A outer s H vs Q E hr h => ?_)
  · obtain ⟨a, p, q, rows, x, y, rfl, _⟩ := h
    rfl
  · obtain ⟨a, p, q, rows, x, y, rfl, ha, R, hp, hq, nx, ny, lx, ly, k⟩ := h
    have hu := hu_of hr
    refine ⟨_, (pss_cons (ps_if (pt_cmpR op_ne (pe_callB call_len_seq (by rfl) T.b_len boot_len (pa_cons (pv 1) pa_nil)) (pe_callB call_len_seq (by rfl) T.b_len boot_len (pa_cons (pv 2) pa_nil)) (nomark _))
        (pss_one (ps_ret (pe_cmpR op_lt (pe_callB call_len_seq (by rfl) T.b_len boot_len (pa_cons (pv 1) pa_nil)) (pe_callB call_len_seq (by rfl) T.b_len boot_len (pa_cons (pv 2) pa_nil)) (nomark _))))
        pss_nil)
      (pss_cons (ps_for PassesOwn.never rfl (pi_range1 (by rfl) T.b_range (pa_cons (pe_callB call_len_seq (by rfl) T.b_len boot_len (pa_cons (pv 1) pa_nil)) pa_nil)) (pg_name (i := 3) sc_law_lesser.nd rfl (Or.inl rfl))
        (pss_one (ps_if (pt_cmpR op_ne (pe_ix ix_tup (pv 1) (pv 3) (fun _ _ => rfl)) (pe_ix ix_tup (pv 2) (pv 3) (fun _ _ => rfl)) (nomark _))
          (pss_one (ps_ret (pe_cmpR op_lt (pe_dget hu (pv 0) (pe_ix ix_tup (pv 1) (pv 3) (fun _ _ => rfl)) (fun _ _ => rfl)) (pe_dget hu (pv 0) (pe_ix ix_tup (pv 2) (pv 3) (fun _ _ => rfl)) (fun _ _ => rfl)) (nomark _))))
          pss_nil)))
      (pss_one (ps_ret pe_bl)))), ?_⟩
    refine ⟨_, rfl, p, _, rfl, .inr hp.sq, _, rfl, q, _, rfl, .inr hq.sq, rfl, _, rfl, ite2 (fun c => ?_) (fun c => ?_)⟩
    · rw [sV_len, sV_len, vne] at c
      have c := of_decide_eq_true c
      refine ⟨_, rfl, p, _, rfl, .inr hp.sq, _, rfl, q, _, rfl, .inr hq.sq, _, _, rfl, rfl, ?_⟩
      rw [show decide (x.length < y.length ∨ (x.length = y.length ∧ lexB (rkS rows) x y = true)) = decide (((sV x).length : Int) < ((sV y).length : Int)) by
        rw [sV_len, sV_len]
        exact decide_eq_decide.mpr ⟨fun h => by rcases h with h | ⟨h, _⟩ <;> omega, fun h => .inl (by omega)⟩] at k
      exact k
    · rw [sV_len, sV_len, vne] at c
      have el : x.length = y.length := by
        cases e : decide (x.length = y.length) with
        | true => exact of_decide_eq_true e
        | false => exact absurd (decide_eq_true (of_decide_eq_false e)) c
      rw [show decide (x.length < y.length ∨ (x.length = y.length ∧ lexB (rkS rows) x y = true)) = lexB (rkS rows) x y by
        cases hb : lexB (rkS rows) x y with
        | true => exact decide_eq_true (.inr ⟨el, rfl⟩)
        | false => exact decide_eq_false (fun h => by rcases h with h | ⟨_, h⟩; omega; cases h)] at k
      refine ⟨_, rfl, p, _, rfl, .inr hp.sq, _, rfl, by rw [sV_len]; omega, by rw [sV_len]; omega, ?_⟩
      rw [sV_len, Int.toNat_natCast]
      refine for_range (n := x.length) (fun i σ H' => ∃ x3 : Option V, σ = [some (.ref a), some (.ref p), some (.ref q), x3] ∧ H = H' ∧ lexB (rkS rows) x y = lexB (rkS rows) (x.drop i) (y.drop i))
        ⟨none, rfl, rfl, rfl⟩ ?_ ?_
      · rintro i σ H2 hi ⟨x3, rfl, rfl, hl⟩
        have e0 : (0 : Int) + (i : Nat) = ((i : Nat) : Int) := by omega
        rw [e0]
        have hiy : i < y.length := by omega
        rw [List.drop_eq_getElem_cons hi, List.drop_eq_getElem_cons hiy, lexB] at hl
        have hx := List.getElem?_eq_getElem hi
        have hy := List.getElem?_eq_getElem hiy
        have nx' := nx _ (List.getElem_mem hi)
        have ny' := ny _ (List.getElem_mem hiy)
        generalize x[i] = z at hx nx' hl
        generalize y[i] = z' at hy ny' hl
        refine ⟨_, rfl, _, rfl, p, _, _, _, rfl, rfl, hp.sq, at_ofG (j := i) rfl (sV_get hx), _, rfl, _, rfl, q, _, _, _, rfl, rfl, hq.sq, at_ofG (j := i) rfl (sV_get hy), rfl, _, rfl, ite2 (fun c => ?_) (fun c => ?_)⟩
        · have nz : ¬ z = z' := fun e => by rw [e] at c; simp at c
          rw [if_neg nz] at hl
          refine ⟨_, rfl, _, rfl, _, rfl, p, _, _, _, rfl, rfl, hp.sq, at_ofG (j := i) rfl (sV_get hx), a, _, rfl, rk_get R ha nx', _, rfl, _, rfl, _, rfl, q, _, _, _, rfl, rfl, hq.sq, at_ofG (j := i) rfl (sV_get hy), a, _, rfl, rk_get R ha ny', _, _, rfl, rfl, ?_⟩
          rw [hl, show decide (rkS rows z < rkS rows z') = decide (((rkS rows z : Nat) : Int) < ((rkS rows z' : Nat) : Int)) from decide_eq_decide.mpr ⟨fun h => by omega, fun h => by omega⟩] at k
          exact k
        · have ez : z = z' := by
            by_cases e : z = z'
            · exact e
            · exact absurd (by simp [e]) c
          rw [if_pos ez] at hl
          exact ⟨_, rfl, rfl, hl⟩
      · rintro σ H2 ⟨x3, rfl, rfl, hl⟩
        rw [List.drop_length] at hl
        rw [hl] at k
        exact k
theorem ok_steps52 (T : Bl mg) (D : Def0 K mg "_law_steps" s_law_steps) : DefOk P w K mg base CX0 1 "_law_steps" spSteps52 := by
  refine D.ok sc_law_steps (fun vs H Q E h => ?_) (fun _ _ _ _ _ _ us hl => match us, hl with | [_, _], _ => rfl) (fun f cdv A outer s H vs Q E hr h => ?_)
  · obtain ⟨r, l, rows, sws, rfl, _⟩ := h
    rfl
  · obtain ⟨r, l, rows, sws, rfl, ⟨ts, hr0, hT⟩, R, ⟨us, hl, hS⟩, l6, k⟩ := h
    have r4 := R.len
    have lts : (ts.map V.ref).length = rows.length := by rw [List.length_map, hT.1]
    refine ⟨_, (pss_cons (ps_setLc (i := 2) (own := [("pair", 3)]) (g := (gName 3)) (tt := tYes) rfl sc_law_steps.nd rfl rfl (sw_true rfl rfl rfl (by decide +kernel)) (pi_list (pv 0)) (blkOk_by (N := N_law_steps) (sc := defScope s_law_steps) (by decide +kernel)) (fun _ _ _ _ _ => (pg_name (i := 3) sc_law_steps.nd rfl (Or.inl rfl))) (fun _ _ _ _ _ => pts_nil) (fun _ _ _ _ _ => (pe_tup (pa_cons (pe_ix (show IxR _ (rIxT K) from ix_tup) (pv 3) pe_int (fun _ _ => rfl)) (pa_cons (pe_ix (show IxR _ (rIxT K) from ix_tup) (pv 3) pe_int (fun _ _ => rfl)) (pa_cons pe_int pa_nil))))))
      (pss_one (ps_ret (pe_op op_cat (pv 2) (pe_callTy call_list_of (by rfl) T.b_list (by decide +kernel) (pa_cons (pv 1) pa_nil)))))), ?_⟩
    refine ⟨_, rfl, r, rfl, ⟨_, SqL.of hr0⟩, fun D hD => lc_it (walk_list (xs := ts.map V.ref)) (fun i H' => Same H H' ∧ ∃ as : List Addr, H' D = some (.lst (as.map V.ref)) ∧ PlAt swV H' as ((rows.take i).map fun q => (q.1, q.1, (0 : Int)))) ⟨(Same.refl H).upd_new hD, [], upd_same, .nil⟩ (fun i H' _ ⟨q, _⟩ => SqL.of (q _ _ hr0)) ?_ ?_⟩
    · rintro i v H1 H2 hi ⟨q1, as, q2, q3⟩ ⟨rfl, hv⟩
      obtain ⟨t, ht, rfl⟩ := get_map_r hv
      have hir : i < rows.length := by rw [← lts]; exact hi
      have hq := List.getElem?_eq_getElem hir
      have htu := q1 _ _ (hT.2 i t rows[i] ht hq)
      generalize rows[i] = q at hq htu
      refine ⟨rfl, _, rfl, t, _, _, _, rfl, rfl, SqT.of htu, atI_nat (j := 0) rfl, _, rfl, t, _, _, _, rfl, rfl, SqT.of htu, atI_nat (j := 0) rfl, le_line (show 3 ≤ 10000000 by decide), fun p hp => ?_⟩
      have la : (as.map V.ref).length < sizeLine := by
        rw [List.length_map, q3.1, List.length_map, List.length_take]
        exact lt_line (by omega)
      refine ⟨_, by rw [upd_ne (ne_of_none q2 hp)]; exact q2, la, (q1.upd_new hp).upd_own hD, as ++ [p], by rw [upd_same, List.map_append]; rfl, ?_⟩
      rw [List.take_add_one, hq, List.map_append]
      exact q3.two (q := (q.1, q.1, (0 : Int))) hp q2
    · rintro H1 ⟨q1, as, q2, q3⟩
      rw [lts, List.take_length] at q3
      refine ⟨_, rfl, _, rfl, l, _, rfl, .inl (SqL.of (q1 _ _ hl)), fun l2 hl2 => ?_⟩
      have s2 := (Same.refl H1).upd_new (o := .lst (us.map V.ref)) hl2
      have D2 := s2 _ _ q2
      refine ⟨D, l2, _, _, rfl, rfl, D2, upd_same, ?_, fun p hp => ?_⟩
      · rw [List.length_map, List.length_map, q3.1, hS.1, List.length_map]
        exact le_line (by omega)
      · have s3 := s2.upd_new (o := .lst (as.map V.ref ++ us.map V.ref)) hp
        rw [← List.map_append] at s3 ⊢
        refine k _ p (q1.trans s3) ⟨as ++ us, upd_same, (q3.keep fun t ys h => s3 _ _ h).app (hS.keep fun t ys h => s3 _ _ (q1 _ _ h))⟩
end
def VLw (H : Hp) (a : Addr) (x : Cp) : Prop := ∃ p, H a = some (.tup [.int x.1, .ref p]) ∧ Tq H p (sV x.2)
def spOffer52 : Sp := fun vs H Q _ => ∃ (a d p : Addr) (s : Nat) (x : Cp) (rows : List Row) (O : Off) (T : Tb), vs = [.ref a, .ref d, .int (s : Nat), .int x.1, .ref p] ∧ H a = some (.dK (rkL (rows.map (·.1)))) ∧ a ≠ d ∧ ROk 4 rows ∧ DtAt VLw H d T ∧ s < 3 ∧ Tq H p (sV x.2) ∧ x.2.length ≤ 5000 ∧ (∀ z ∈ x.2, HasN rows z) ∧ Bst (rkS rows) O T ∧ (∀ s x, O s x → x.2.length ≤ 5000 ∧ ∀ z ∈ x.2, HasN rows z) ∧ ∀ (H' : Hp) (T' : Tb) (b : Bool), Kp d H H' → DtAt VLw H' d T' → Bst (rkS rows) (O.add s x) T' → Q (.bl b) H'
abbrev N_law_offer : List Str := ["rank", "best", "state", "number", "plant", "old"]
theorem sc_law_offer : FnScope N_law_offer ["rank", "best", "state", "number", "plant"] (defScope s_law_offer) := ⟨rfl, rfl, rfl, by decide +kernel, rfl, by decide +kernel, by decide +kernel⟩
section
variable {P : Program} {w : World} {K : PySem.W.Frag} {mg : Str → Option Value} {base : Heap}
theorem ok_offer52 (T : Bl mg) (c_law_lesser : DefOk P w K mg base CX0 1 "_law_lesser" spLess52) (D : Def0 K mg "_law_offer" s_law_offer) : DefOk P w K mg base CX0 2 "_law_offer" spOffer52 := by
  refine D.ok sc_law_offer (fun vs H Q E h => ?_) (fun _ _ _ _ _ _ us hl => match us, hl with | [_, _, _, _, _], _ => rfl) (fun f cdv A outer s' H vs Q E hr h => ?_)
  · obtain ⟨a, d, p, s, x, rows, O, Tt, rfl, _⟩ := h
    rfl
  · obtain ⟨a, d, p, s, x, rows, O, Tt, rfl, ha, nad, R, hD, s3, hp, lx, nx, B, ok, k⟩ := h
    have hu := hu_of hr
    refine ⟨_, (pss_cut (ps_if (pt_cmp (pc_din hu (pv 2) (pv 1)))
        (pss_cons (ps_set (i := 5) sc_law_offer.nd rfl (Or.inl rfl) (pe_dget hu (pv 1) (pv 2) (fun _ _ => rfl)))
        (pss_one (ps_if (PW.pt (pw_or (pt_cmpR op_gt (pv 3) (pe_ix ix_tup (pv 5) pe_int (fun _ _ => rfl)) (nomark _)) (pw_or1 (PW.pt (pw_and (pt_cmpR op_eq (pv 3) (pe_ix ix_tup (pv 5) pe_int (fun _ _ => rfl)) (nomark _)) (pw_and1 (pt_not (pt_val (pe_d c_law_lesser (hr.mono (by decide)) pass0 (pa_cons (pv 0) (pa_cons (pv 4) (pa_cons (pe_ix ix_tup (pv 5) pe_int (fun _ _ => rfl)) pa_nil))))))))))))
          (pss_one (ps_ret pe_bl))
          pss_nil)))
        pss_nil)
      (pss_cons (ps_dput hu (pv 1) (pv 2) (pe_tup (pa_cons (pv 3) (pa_cons (pv 4) pa_nil))) rfl)
      (pss_one (ps_ret pe_bl)))), ?_⟩
    refine ⟨fun σ H' => H' = H ∧ (∃ x5 : Option V, σ = [some (.ref a), some (.ref d), some (.int (s : Nat)), some (.int x.1), some (.ref p), x5]) ∧ (Tt s = none ∨ ∃ y, Tt s = some y ∧ pB (rkS rows) x y), ?_, ?_⟩
    · cases hs : Tt s with
      | none =>
        exact ⟨_, rfl, _, rfl, d, _, rfl, hD.no hs, _, rfl, ifn (by simp) ⟨rfl, ⟨none, rfl⟩, .inl rfl⟩⟩
      | some y =>
        have hO := B s
        rw [hs] at hO
        obtain ⟨ly, ny⟩ := ok s y hO.1
        obtain ⟨v, gv, q, hv, hq⟩ := hD.get hs
        refine ⟨_, rfl, _, rfl, d, _, rfl, gv, _, rfl, ifp rfl ?_⟩
        refine ⟨_, rfl, _, rfl, d, _, rfl, gv, ?_⟩
        refine ⟨_, rfl, _, rfl, v, _, _, _, rfl, rfl, SqT.of hv, atI_nat (j := 0) rfl, _, _, rfl, rfl, _, rfl, ite2 (fun c => ifp rfl ?_) (fun c => ?_)⟩
        · have c := of_decide_eq_true c
          exact k _ Tt false (Kp.refl d _) hD (B.skip hs fun q => by rcases q with q | ⟨q, _⟩ <;> omega)
        · have c : ¬ x.1 > y.1 := fun h => c (decide_eq_true h)
          refine ⟨_, rfl, _, rfl, v, _, _, _, rfl, rfl, SqT.of hv, atI_nat (j := 0) rfl, rfl, _, rfl, ite2 (fun c2 => ?_) (fun c2 => ?_)⟩
          · rw [veq] at c2
            have c2 := of_decide_eq_true c2
            refine ⟨_, rfl, _, rfl, _, rfl, v, _, _, _, rfl, rfl, SqT.of hv, atI_nat (j := 1) rfl, a, p, q, rows, x.2, y.2, rfl, ha, R, hp, hq, nx, ny, lx, ly, _, rfl, ite2 (fun c3 => ?_) (fun c3 => ?_)⟩
            · refine k _ Tt false (Kp.refl d _) hD (B.skip hs fun q => ?_)
              rcases q with q | ⟨_, q⟩
              · omega
              · rw [decide_eq_true q] at c3
                cases c3
            · refine ⟨rfl, ⟨_, rfl⟩, .inr ⟨y, rfl, .inr ⟨c2, ?_⟩⟩⟩
              cases e : decide (x.2.length < y.2.length ∨ (x.2.length = y.2.length ∧ lexB (rkS rows) x.2 y.2 = true)) with
              | true => exact of_decide_eq_true e
              | false =>
                rw [e] at c3
                exact absurd rfl c3
          · rw [veq] at c2
            have c2 : ¬ x.1 = y.1 := fun h => c2 (decide_eq_true h)
            exact ifn (by decide) ⟨rfl, ⟨_, rfl⟩, .inr ⟨y, rfl, .inl (by omega)⟩⟩
    rintro σ H1 ⟨rfl, ⟨x5, rfl⟩, hx⟩
    refine ⟨_, rfl, _, rfl, le_line (show 2 ≤ 10000000 by decide), fun t ht => ?_⟩
    have s1 := (Same.refl H1).upd_new (o := .tup [.int x.1, .ref p]) ht
    have t1 : (upd H1 t (.tup [.int x.1, .ref p])) t = some (.tup [.int x.1, .ref p]) := upd_same
    generalize upd H1 t (.tup [.int x.1, .ref p]) = H2 at s1 t1
    obtain ⟨es, hes, _⟩ := id hD
    have hD2 : DtAt VLw H2 d Tt := hD.keep (by rw [hes, s1 _ _ hes]) fun a y ⟨p, h1, h2⟩ => ⟨p, s1 _ _ h1, h2.same s1⟩
    have d2 := s1 _ _ hes
    have kv : ∀ o a y, VLw H2 a y → VLw (upd H2 d o) a y := fun o a y ⟨p, h1, h2⟩ => ⟨p, by rw [upd_ne (ne_of h1 d2 (fun e => nomatch e))]; exact h1, tq_upd h2 d2⟩
    obtain ⟨o, hput, hD3⟩ := hD2.put s3 (a := t) (x := x) ⟨p, t1, hp.same s1⟩ kv
    exact ⟨_, rfl, _, rfl, d, _, rfl, hput, k _ _ true ((Kp.same s1).trans (Kp.refl d H2).upd) hD3 (B.put hx)⟩
end
end Sh
end
section
set_option Elab.async false
set_option linter.all false
set_option maxRecDepth 100000
set_option maxHeartbeats 16000000
namespace Sh
open PySem PySem.Spec PyProof.Rows L2
open C8 (pss_cut tCut)
open Evl (ixN_nat)
theorem Same.kpd {d : Addr} {H H1 H2 : Hp} (s : Same H H1) (hd : H d = none) (k : Kp d H1 H2) : Same H H2 := fun a o h => k a o (s a o h) (fun e => by rw [e, hd] at h; cases h)
theorem Kp.tupd {d : Addr} {H H' : Hp} {kvs : List (Key × V)} (k : Kp d H H') (hd : H d = some (.dK kvs)) : ∀ t ys, H t = some (.tup ys) → H' t = some (.tup ys) := fun t ys h => k t _ h (ne_of h hd (fun e => nomatch e))
/-- a list of dicts by states -/
def DsAt {α : Type} (Vl : Hp → Addr → α → Prop) (H : Hp) (ds : List Addr) (Ts : List (Nat → Option α)) : Prop := ds.length = Ts.length ∧ ∀ (i : Nat) (d : Addr) (T : Nat → Option α), ds[i]? = some d → Ts[i]? = some T → DtAt Vl H d T
theorem VLw.same {H H' : Hp} {a : Addr} {x : Cp} (h : VLw H a x) (s : Same H H') : VLw H' a x := by
  obtain ⟨p, h1, h2⟩ := h
  exact ⟨p, s _ _ h1, h2.same s⟩
theorem DtAt.same {H H' : Hp} {d : Addr} {T : Tb} (h : DtAt VLw H d T) (s : Same H H') : DtAt VLw H' d T := by
  obtain ⟨es, hes, _⟩ := id h
  exact h.keep (by rw [hes, s _ _ hes]) fun a x hv => hv.same s
theorem DsAt.same {H H' : Hp} {ds : List Addr} {Ts : List Tb} (h : DsAt VLw H ds Ts) (s : Same H H') : DsAt VLw H' ds Ts := ⟨h.1, fun i d T a b => (h.2 i d T a b).same s⟩
theorem Bst.or {r : Str → Nat} {O O' : Off} {T : Tb} (h : Bst r O T) (e : ∀ s x, O s x ↔ O' s x) : Bst r O' T := h.congr e
theorem swp_memU {rows : List Row} {sws : List Swap} (W : SwOk rows sws) {z y : Str} {c : Int} : swp sws z y = some c ↔ (z = y ∧ c = 0) ∨ (z, y, c) ∈ sws := by
  have nd := W.nd
  unfold swp
  by_cases h : z = y
  · rw [if_pos h]
    constructor
    · intro e
      injection e with e
      exact .inl ⟨h, e.symm⟩
    · rintro (⟨_, e⟩ | hm)
      · rw [e]
      · exact absurd h (W.pr _ hm).1
  · rw [if_neg h]
    constructor
    · intro e
      cases hf : sws.find? (fun q => decide (q.1 = z ∧ q.2.1 = y)) with
      | none => rw [hf] at e; cases e
      | some q =>
        rw [hf] at e
        have hp := List.find?_some hf
        have e1 : q.1 = z ∧ q.2.1 = y := of_decide_eq_true hp
        have hm := List.mem_of_find?_eq_some hf
        injection e with e
        obtain ⟨q1, q2, q3⟩ := q
        obtain ⟨rfl, rfl⟩ := e1
        have e : q3 = c := e
        rw [← e]
        exact .inr hm
    · rintro (⟨e, _⟩ | hm)
      · exact absurd e h
      · cases hf : sws.find? (fun q => decide (q.1 = z ∧ q.2.1 = y)) with
        | none => exact absurd (List.find?_eq_none.mp hf _ hm) (by simp)
        | some q =>
          have hp := List.find?_some hf
          have e1 : q.1 = z ∧ q.2.1 = y := of_decide_eq_true hp
          have hq := List.mem_of_find?_eq_some hf
          obtain ⟨i, hi, ei⟩ := List.mem_iff_getElem.mp hm
          obtain ⟨j, hj, ej⟩ := List.mem_iff_getElem.mp hq
          have l1 : i < (sws.map fun q => (q.1, q.2.1)).length := by rw [List.length_map]; exact hi
          have l2 : j < (sws.map fun q => (q.1, q.2.1)).length := by rw [List.length_map]; exact hj
          have e2 : (sws.map fun q => (q.1, q.2.1))[i] = (sws.map fun q => (q.1, q.2.1))[j] := by
            rw [List.getElem_map, List.getElem_map, ei, ej]
            exact Prod.ext e1.1.symm e1.2.symm
          have := (List.getElem_inj nd).mp e2
          subst this
          rw [← ej, ei]
          rfl
def stepsL (rows : List Row) (sws : List Swap) : List Swap := (rows.map fun q => (q.1, q.1, (0 : Int))) ++ sws
theorem steps_mem {rows : List Row} {sws : List Swap} (W : SwOk rows sws) {e y : Str} {k : Int} (he : HasN rows e) : (e, y, k) ∈ stepsL rows sws ↔ swp sws e y = some k := by
  unfold stepsL
  rw [List.mem_append, swp_memU W, List.mem_map]
  constructor
  · rintro (⟨q, hq, h⟩ | h)
    · obtain ⟨e1, h⟩ := Prod.mk.inj h
      obtain ⟨e2, e3⟩ := Prod.mk.inj h
      exact .inl ⟨e1.symm.trans e2, e3.symm⟩
    · exact .inr h
  · rintro (⟨e1, e2⟩ | h)
    · obtain ⟨q, hq, eq⟩ := he
      exact .inl ⟨q, hq, by rw [e2, ← e1, eq]⟩
    · exact .inr h
/-- offers of the first steps -/
def OSt (D : RdD) (e : Str) (Ts : List Tb) (L : List Swap) : Off := fun s x => ∃ q ∈ L, q.1 = e ∧ ∃ ss xs, Pick Ts ss xs ∧ s = D.stp q.2.1 ss ∧ x = (q.2.2 + sumC xs, q.2.1 :: catP xs)
def OWy (D : RdD) (Ts : List Tb) (q : Swap) (W : List (List Nat)) : Off := fun s x => ∃ ss ∈ W, ∃ xs, Pick Ts ss xs ∧ s = D.stp q.2.1 ss ∧ x = (q.2.2 + sumC xs, q.2.1 :: catP xs)
theorem ost_all {rows : List Row} {sws : List Swap} (W : SwOk rows sws) {D : RdD} {e : Str} (he : HasN rows e) {Ts : List Tb} (s : Nat) (x : Cp) : OSt D e Ts (stepsL rows sws) s x ↔ OStep D sws e Ts s x := by
  constructor
  · rintro ⟨⟨z, y, k⟩, hq, rfl, ss, xs, hp, h1, h2⟩
    exact ⟨ss, xs, y, k, hp, (steps_mem W he).mp hq, h1, h2⟩
  · rintro ⟨ss, xs, y, k, hp, hs, h1, h2⟩
    exact ⟨(e, y, k), (steps_mem W he).mpr hs, rfl, ss, xs, hp, h1, h2⟩
theorem DtAt.list {α : Type} {Vl : Hp → Addr → α → Prop} {H : Hp} {d : Addr} {T : Nat → Option α} (h : DtAt Vl H d T) : ∃ l : List Nat, (∃ kvs, H d = some (.dK kvs) ∧ kvs.map (fun kv => kV kv.1) = nI l) ∧ (∀ s, s ∈ l ↔ (T s).isSome = true) ∧ l.length ≤ 3 := by
  obtain ⟨es, h1, h2, h3, h4, h5⟩ := h
  refine ⟨es.map (·.1), ⟨_, h1, ?_⟩, fun s => ⟨fun hs => ?_, fun hs => ?_⟩, nd_lt h2 h3⟩
  · unfold intL nI
    rw [List.map_map, List.map_map]
    rfl
  · obtain ⟨e, he, rfl⟩ := List.mem_map.mp hs
    obtain ⟨x, hx, _⟩ := h4 e he
    rw [hx]
    rfl
  · obtain ⟨x, hx⟩ := Option.isSome_iff_exists.mp hs
    exact h5 s x hx
theorem DsAt.lists {α : Type} {Vl : Hp → Addr → α → Prop} {H : Hp} : ∀ {ds : List Addr} {Ts : List (Nat → Option α)}, DsAt Vl H ds Ts → ∃ ls : List (List Nat), ls.length = ds.length ∧ (∀ (i : Nat) (d : Addr) (l : List Nat), ds[i]? = some d → ls[i]? = some l → ∃ kvs, H d = some (.dK kvs) ∧ kvs.map (fun kv => kV kv.1) = nI l) ∧ (∀ (i : Nat) (T : Nat → Option α) (l : List Nat), Ts[i]? = some T → ls[i]? = some l → ∀ s, s ∈ l ↔ (T s).isSome = true) ∧ ∀ l ∈ ls, l.length ≤ 3
  | [], Ts, h => ⟨[], rfl, fun i d l h => by simp at h, fun i T l _ h => by simp at h, fun l h => (nomatch h)⟩
  | d :: ds, [], h => by cases h.1
  | d :: ds, T :: Ts, h => by
    obtain ⟨l, h1, h2, h3⟩ := (h.2 0 d T rfl rfl).list
    obtain ⟨ls, g1, g2, g3, g4⟩ := DsAt.lists (ds := ds) (Ts := Ts) ⟨by simpa using h.1, fun i d T a b => h.2 (i + 1) d T a b⟩
    refine ⟨l :: ls, by rw [List.length_cons, List.length_cons, g1], fun i d' l' a b => ?_, fun i T' l' a b => ?_, fun l' hl => ?_⟩
    · cases i with
      | zero => cases a; cases b; exact h1
      | succ i => exact g2 i d' l' a b
    · cases i with
      | zero => cases a; cases b; exact h2
      | succ i => exact g3 i T' l' a b
    · rcases List.mem_cons.mp hl with rfl | hl
      · exact h3
      · exact g4 l' hl
theorem ways_pick {Ts : List Tb} {ls : List (List Nat)} (hl : ls.length = Ts.length) (h : ∀ (i : Nat) (T : Tb) (l : List Nat), Ts[i]? = some T → ls[i]? = some l → ∀ s, s ∈ l ↔ (T s).isSome = true) {ss : List Nat} : ss ∈ ways ls ↔ ∃ xs, Pick Ts ss xs := by
  rw [ways_mem]
  constructor
  · rintro ⟨h1, h2⟩
    refine Pick.of (h1.trans hl) fun i T s a b => ?_
    have hi := (List.getElem?_eq_some_iff.mp a).1
    have c := List.getElem?_eq_getElem (show i < ls.length by omega)
    exact (h i T _ a c s).mp (h2 i s _ b c)
  · rintro ⟨xs, hp⟩
    obtain ⟨l1, l2⟩ := hp.len
    refine ⟨by omega, fun i s l b c => ?_⟩
    have hi := (List.getElem?_eq_some_iff.mp c).1
    have a := List.getElem?_eq_getElem (show i < Ts.length by omega)
    obtain ⟨x, _, hx⟩ := hp.at a b
    exact (h i _ l a c s).mpr (by rw [hx]; rfl)
theorem sumC_succ {xs : List Cp} {b : Nat} {x : Cp} (h : xs[b]? = some x) : sumC (xs.take (b + 1)) = sumC (xs.take b) + x.1 := by
  unfold sumC
  rw [List.take_add_one, h, List.map_append, List.sum_append]
  show _ + (x.1 + 0) = _
  omega
theorem catP_succ {xs : List Cp} {b : Nat} {x : Cp} (h : xs[b]? = some x) : catP (xs.take (b + 1)) = catP (xs.take b) ++ x.2 := by
  unfold catP
  rw [List.take_add_one, h, List.map_append, List.flatten_append]
  show _ ++ (x.2 ++ []) = _
  rw [List.append_nil]
theorem catP_take (xs : List Cp) (b : Nat) : (catP (xs.take b)).length ≤ (catP xs).length := by
  have : catP xs = catP (xs.take b) ++ catP (xs.drop b) := by
    unfold catP
    rw [← List.flatten_append, ← List.map_append, List.take_append_drop]
  rw [this, List.length_append]
  omega
def spKnot52 (P : Program) (w : World) : Sp := fun vs H Q _ => ∃ (r a rd st bl : Addr) (ds : List Addr) (cut : Int) (e : Str) (rows : List Row) (D : RdD) (sws : List Swap) (Ts : List Tb) (ns : List Nat), vs = [.ref r, .ref a, .ref rd, .int cut, .ref st, .str e, .ref bl] ∧ RowsAt H r rows ∧ ROk 4 rows ∧ H a = some (.dK (rkL (rows.map (·.1)))) ∧ LrAt P w H rd D ∧ D.Ok rows ∧ SwsAt H st (stepsL rows sws) ∧ SwOk rows sws ∧ GoodB rows sws sws.length ∧ HasN rows e ∧ H bl = some (.lst (ds.map V.ref)) ∧ DsAt VLw H ds Ts ∧ TbsOk rows D ns Ts ∧ ns.sum ≤ 3000 ∧ Ts.length = wR rows e ∧ ∀ (H' : Hp) (d : Addr) (T : Tb), Same H H' → H d = none → DtAt VLw H' d T → Bst (rkS rows) (OKn rows D cut sws e Ts) T → Q (.ref d) H'
abbrev N_law_knot : List Str := ["kinds", "rank", "reader", "cutting", "steps", "entry", "below", "best", "pair", "step", "states", "number", "plant", "branch", "part"]
theorem sc_law_knot : FnScope N_law_knot ["kinds", "rank", "reader", "cutting", "steps", "entry", "below"] (defScope s_law_knot) := ⟨rfl, rfl, rfl, by decide +kernel, rfl, by decide +kernel, by decide +kernel⟩
section
variable {P : Program} {w : World} {K : PySem.W.Frag} {mg : Str → Option Value} {base : Heap}
theorem ok_knot52 (T : Bl mg) (c_law_offer : DefOk P w K mg base CX0 2 "_law_offer" spOffer52) (c_law_ways : DefOk P w K mg base CX0 1 "_law_ways" spWays52) (D : Def0 K mg "_law_knot" s_law_knot) : DefOk P w K mg base CX0 3 "_law_knot" (spKnot52 P w) := by
  refine D.ok sc_law_knot (fun vs H Q E h => ?_) (fun _ _ _ _ _ _ us hl => match us, hl with | [_, _, _, _, _, _, _], _ => rfl) (fun f cdv A outer s' H vs Q E hr h => ?_)
  · obtain ⟨r, a, rd, st, bl, ds, cut, e, rows, D, sws, Ts, ns, rfl, _⟩ := h
    rfl
  · obtain ⟨r, a, rd, st, bl, ds, cut, e, rows, D, sws, Ts, ns, rfl, ⟨ts, hr0, hT⟩, R, ha, ⟨tb, tm, trw, tus, hrd, hnd, _, _, _⟩, O, ⟨qs, hst, hS⟩, W, W2, he, hbl, hDs, hTs, l3000, hlw, key⟩ := h
    have hu := hu_of hr
    have hu2 := hu2_of hr
    have r4 := R.len
    refine ⟨_, (pss_cons (ps_set (i := 7) sc_law_knot.nd rfl (Or.inl rfl) pe_dnewK)
      (pss_cons (ps_for PassesOwn.never rfl (pi_list (pv 0)) (pg_name (i := 8) sc_law_knot.nd rfl (Or.inl rfl))
        (pss_one (ps_if (pt_cmpR op_eq (pe_ix ix_tup (pv 8) pe_int (fun _ _ => rfl)) pe_int (nomark _))
          (pss_one (ps_expr (pe_d c_law_offer (hr.mono (by decide)) pass0 (pa_cons (pv 1) (pa_cons (pv 7) (pa_cons (pe_nget hu2 (pe_ix ix_list (pv 2) pe_int (fun _ _ => rfl)) (pe_tup (pa_cons (pe_ix ix_tup (pv 8) pe_int (fun _ _ => rfl)) (pa_cons (pe_tup pa_nil) pa_nil))) (fun _ _ => rfl)) (pa_cons (pv 3) (pa_cons (pe_tup (pa_cons (pe_ix ix_tup (pv 8) pe_int (fun _ _ => rfl)) pa_nil)) pa_nil))))))))
          pss_nil)))
      (pss_cons (ps_for PassesOwn.never rfl (pi_list (pv 4)) (pg_name (i := 9) sc_law_knot.nd rfl (Or.inl rfl))
        (pss_one (ps_if (pt_cmpR op_eq (pe_ix ix_tup (pv 9) pe_int (fun _ _ => rfl)) (pv 5) (nomark _))
          (pss_one (ps_for PassesOwn.never rfl (pi_list (pe_d c_law_ways (hr.mono (by decide)) pass0 (pa_cons (pe_lc (own := [("part", 14)]) (g := (gName 14)) (tt := tYes) rfl sc_law_knot.nd (pi_list (pv 6)) (blkOk_by (N := N_law_knot) (sc := defScope s_law_knot) (by decide +kernel)) (fun _ _ _ _ _ => (pg_name (i := 14) sc_law_knot.nd rfl (Or.inl rfl))) (fun _ _ _ _ _ => pts_nil) (fun _ _ _ _ _ => (pe_callTy (call_listD rfl) (by rfl) T.b_list (by decide +kernel) (pa_cons (pv 14) pa_nil)))) pa_nil))) (pg_name (i := 10) sc_law_knot.nd rfl (Or.inl rfl))
            (pss_cons (ps_set (i := 11) sc_law_knot.nd rfl (Or.inl rfl) (pe_ix ix_tup (pv 9) pe_int (fun _ _ => rfl)))
            (pss_cons (ps_set (i := 12) sc_law_knot.nd rfl (Or.inl rfl) (pe_tup (pa_cons (pe_ix ix_tup (pv 9) pe_int (fun _ _ => rfl)) pa_nil)))
            (pss_cons (ps_for PassesOwn.never rfl (pi_range1 (by rfl) T.b_range (pa_cons (pe_callB call_len_seq (by rfl) T.b_len boot_len (pa_cons (pv 10) pa_nil)) pa_nil)) (pg_name (i := 13) sc_law_knot.nd rfl (Or.inl rfl))
              (pss_cons (ps_set (i := 14) sc_law_knot.nd rfl (Or.inl rfl) (pe_dget hu (pe_ix ix_list (pv 6) (pv 13) (fun _ _ => rfl)) (pe_ix ix_tup (pv 10) (pv 13) (fun _ _ => rfl)) (fun _ _ => rfl)))
              (pss_cons (ps_set (i := 11) sc_law_knot.nd rfl (Or.inl rfl) (pe_op op_add (pv 11) (pe_ix ix_tup (pv 14) pe_int (fun _ _ => rfl))))
              (pss_one (ps_set (i := 12) sc_law_knot.nd rfl (Or.inl rfl) (pe_op op_catA (pv 12) (pe_ix ix_tup (pv 14) pe_int (fun _ _ => rfl))))))))
            (pss_one (ps_expr (pe_d c_law_offer (hr.mono (by decide)) pass0 (pa_cons (pv 1) (pa_cons (pv 7) (pa_cons (pe_nget hu2 (pe_ix ix_list (pv 2) pe_int (fun _ _ => rfl)) (pe_tup (pa_cons (pe_ix ix_tup (pv 9) pe_int (fun _ _ => rfl)) (pa_cons (pv 10) pa_nil))) (fun _ _ => rfl)) (pa_cons (pv 11) (pa_cons (pv 12) pa_nil)))))))))))))
          pss_nil)))
      (pss_one (ps_ret (pv 7)))))), ?_⟩
    have kok : ∀ {s x}, OKn rows D cut sws e Ts s x → s < D.many ∧ (∀ z ∈ x.2, HasN rows z) ∧ x.2.length ≤ 5000 := fun {s} {x} h => by
      obtain ⟨h1, h2, h3, _⟩ := knot_ok R O W2 he hTs hlw h
      exact ⟨h1, h2, by omega⟩
    intro d hd
    have nad : a ≠ d := ne_of_none ha hd
    have s1 := (Same.refl H).upd_new (o := .dK []) hd
    have d1 : DtAt VLw (upd H d (.dK [])) d (fun _ => none) := .nil upd_same
    generalize upd H d (.dK []) = H1 at s1 d1
    refine ⟨_, rfl, r, rfl, ⟨_, SqL.of (s1 _ _ hr0)⟩, for_list (xs := ts.map V.ref) (fun i σ H' => ∃ (x8 : Option V) (T : Tb), σ = [some (.ref r), some (.ref a), some (.ref rd), some (.int cut), some (.ref st), some (.str e), some (.ref bl), some (.ref d), x8, none, none, none, none, none, none] ∧ Same H H' ∧ DtAt VLw H' d T ∧ Bst (rkS rows) (fun s x => ∃ q ∈ rows.take i, q.2 = 0 ∧ s = D.stp q.1 [] ∧ x = (cut, [q.1])) T)
      ⟨none, _, rfl, s1, d1, (Bst.nil _).or fun s x => ⟨fun h => h.elim, fun ⟨q, hq, _⟩ => by rw [List.take_zero] at hq; cases hq⟩⟩ (fun i σ H' _ ⟨_, _, _, s, _⟩ => SqL.of (s _ _ hr0)) ?_ ?_⟩
    · rintro i v σ H2 hv ⟨x8, T2, rfl, s2, d2, B2⟩
      obtain ⟨t, ht, rfl⟩ := get_map_r hv
      have hil : i < rows.length := by rw [← hT.1]; exact (List.getElem?_eq_some_iff.mp ht).1
      have hq := List.getElem?_eq_getElem hil
      have hmem := List.getElem_mem hil
      have htu := s2 _ _ (hT.2 i t rows[i] ht hq)
      generalize rows[i] = q at hq htu hmem
      have et : rows.take (i + 1) = rows.take i ++ [q] := by rw [List.take_add_one, hq]; rfl
      refine ⟨_, rfl, t, _, _, _, rfl, rfl, SqT.of htu, atI_nat (j := 1) rfl, rfl, _, rfl, ite2 (fun c => ?_) (fun c => ?_)⟩
      · rw [veq] at c
        have q0 : q.2 = 0 := of_decide_eq_true c
        have w0 : wR rows q.1 = 0 := by rw [wR_of R hmem, q0]; rfl
        refine ⟨_, rfl, _, rfl, _, rfl, rd, _, _, _, rfl, rfl, SqL.of (s2 _ _ hrd), atI_nat (j := 1) rfl, _, rfl, t, _, _, _, rfl, rfl, SqT.of htu, atI_nat (j := 0) rfl, le_line (show 0 ≤ 10000000 by decide), fun u hu0 => ?_⟩
        have s3 := (Same.refl H2).upd_new (o := .tup []) hu0
        have u3 : (upd H2 u (.tup [])) u = some (.tup []) := upd_same
        generalize upd H2 u (.tup []) = H3 at s3 u3
        refine ⟨le_line (show 2 ≤ 10000000 by decide), fun v hv0 => ?_⟩
        have s4 := s3.upd_new (o := .tup [.str q.1, .ref u]) hv0
        have v4 : (upd H3 v (.tup [.str q.1, .ref u])) v = some (.tup [.str q.1, .ref u]) := upd_same
        have u4 : (upd H3 v (.tup [.str q.1, .ref u])) u = some (.tup []) := by rw [upd_ne (ne_of_none u3 hv0)]; exact u3
        generalize upd H3 v (.tup [.str q.1, .ref u]) = H4 at s4 v4 u4
        have s24 := s2.trans s4
        have hs3 : D.stp q.1 [] < D.many := O.stp_lt R ⟨q, hmem, rfl⟩ w0.symm (fun s h => nomatch h)
        refine ⟨tb, v, _, nkR (q.1, []), _, rfl, rfl, hnd.sm s24, ⟨u, v4, u4⟩, O.val R ⟨q, hmem, rfl⟩ w0.symm (fun s h => nomatch h), ?_⟩
        refine ⟨_, rfl, _, rfl, t, _, _, _, rfl, rfl, SqT.of (s4 _ _ htu), atI_nat (j := 0) rfl, le_line (show 1 ≤ 10000000 by decide), fun p hp => ?_⟩
        have s5 := s4.upd_new (o := .tup [.str q.1]) hp
        have p5 : (upd H4 p (.tup [.str q.1])) p = some (.tup (sV [q.1])) := upd_same
        generalize upd H4 p (.tup [.str q.1]) = H5 at s5 p5
        refine ⟨a, d, p, D.stp q.1 [], (cut, [q.1]), rows, _, T2, rfl, (s2.trans s5) _ _ ha, nad, R, d2.same s5, Nat.lt_of_lt_of_le hs3 O.m3, .of p5, (show 1 ≤ 5000 by decide), fun z hz => by rw [List.mem_singleton.mp hz]; exact ⟨q, hmem, rfl⟩, B2, fun s x ⟨q', hq', h1, h2, h3⟩ => ?_, fun H6 T6 b k6 d6 B6 => ?_⟩
        · have := kok (.inl ⟨q', List.mem_of_mem_take hq', h1, h2, h3⟩)
          exact ⟨this.2.2, this.2.1⟩
        · refine ⟨_, T6, rfl, Same.kpd (s2.trans s5) hd k6, d6, B6.or fun s x => ?_⟩
          rw [et]
          constructor
          · rintro (⟨q', hq', h⟩ | ⟨rfl, rfl⟩)
            · exact ⟨q', List.mem_append_left _ hq', h⟩
            · exact ⟨q, List.mem_append_right _ List.mem_cons_self, q0, rfl, rfl⟩
          · rintro ⟨q', hq', h⟩
            rcases List.mem_append.mp hq' with g | g
            · exact .inl ⟨q', g, h⟩
            · rw [List.mem_singleton.mp g] at h
              exact .inr ⟨h.2.1, h.2.2⟩
      · rw [veq] at c
        have q0 : ¬ q.2 = 0 := fun e => c (decide_eq_true e)
        refine ⟨_, T2, rfl, s2, d2, B2.or fun s x => ?_⟩
        rw [et]
        constructor
        · rintro ⟨q', hq', h⟩
          exact ⟨q', List.mem_append_left _ hq', h⟩
        · rintro ⟨q', hq', h⟩
          rcases List.mem_append.mp hq' with g | g
          · exact ⟨q', g, h⟩
          · rw [List.mem_singleton.mp g] at h
            exact absurd h.1 q0
    rintro σ H2 ⟨x8, T2, rfl, s2, d2, B2⟩
    have lts : (ts.map V.ref).length = rows.length := by rw [List.length_map, hT.1]
    rw [lts, List.take_length] at B2
    have lqs : (qs.map V.ref).length = (stepsL rows sws).length := by rw [List.length_map, hS.1]
    refine ⟨_, rfl, st, rfl, ⟨_, SqL.of (s2 _ _ hst)⟩, for_list (xs := qs.map V.ref) (fun i σ H' => ∃ (x9 x10 x11 x12 x13 x14 : Option V) (T : Tb), σ = [some (.ref r), some (.ref a), some (.ref rd), some (.int cut), some (.ref st), some (.str e), some (.ref bl), some (.ref d), x8, x9, x10, x11, x12, x13, x14] ∧ Same H H' ∧ DtAt VLw H' d T ∧ Bst (rkS rows) (fun s x => OLeaf rows D cut s x ∨ OSt D e Ts ((stepsL rows sws).take i) s x) T)
      ⟨none, none, none, none, none, none, T2, rfl, s2, d2, B2.or fun s x => ⟨fun h => .inl h, fun h => h.elim id fun ⟨q, hq, _⟩ => by rw [List.take_zero] at hq; cases hq⟩⟩ (fun i σ H' _ ⟨_, _, _, _, _, _, _, _, s, _⟩ => SqL.of (s _ _ hst)) ?_ ?_⟩
    · rintro i v σ H3 hv ⟨x9, x10, x11, x12, x13, x14, T3, rfl, s3, d3, B3⟩
      obtain ⟨t, ht, rfl⟩ := get_map_r hv
      have hil : i < (stepsL rows sws).length := by rw [← hS.1]; exact (List.getElem?_eq_some_iff.mp ht).1
      have hq := List.getElem?_eq_getElem hil
      have hmem := List.getElem_mem hil
      have htu := s3 _ _ (hS.2 i t (stepsL rows sws)[i] ht hq)
      generalize (stepsL rows sws)[i] = q at hq htu hmem
      have et : (stepsL rows sws).take (i + 1) = (stepsL rows sws).take i ++ [q] := by rw [List.take_add_one, hq]; rfl
      refine ⟨_, rfl, t, _, _, _, rfl, rfl, SqT.of htu, atI_nat (j := 0) rfl, _, rfl, rfl, _, rfl, ite2 (fun c => ?_) (fun c => ?_)⟩
      · have q0 : q.1 = e := by
          have := of_decide_eq_true c
          injection this
        obtain ⟨e', y, k⟩ := q
        have q0 : e' = e := q0
        subst q0
        have hsw := (steps_mem W he).mp hmem
        have hy := swp_has W2 he hsw
        have wy := swp_wd W2 hsw
        have hDs3 := hDs.same s3
        obtain ⟨ls, g1, g2, g3, g4⟩ := hDs3.lists
        have llT : ls.length = Ts.length := g1.trans hDs.1
        have w3 : Ts.length ≤ 3 := by rw [hlw]; exact wR_le R _
        refine ⟨_, rfl, bl, rfl, ⟨_, SqL.of (s3 _ _ hbl)⟩, fun D' hD' => lc_it (walk_list (xs := ds.map V.ref)) (fun j H' => Same H3 H' ∧ ∃ bs : List Addr, H' D' = some (.lst (bs.map V.ref)) ∧ LsAt H' bs (ls.take j)) ⟨(Same.refl H3).upd_new hD', [], upd_same, rfl, fun i b l h => by simp at h⟩ (fun j H' _ ⟨q, _⟩ => SqL.of (q _ _ (s3 _ _ hbl))) ?_ ?_⟩
        · rintro j v H4 H5 hj ⟨s4, bs, D4, L4⟩ ⟨rfl, hv⟩
          obtain ⟨dd, hdd, rfl⟩ := get_map_r hv
          have hjl : j < ls.length := by rw [g1]; exact (List.getElem?_eq_some_iff.mp hdd).1
          have hl := List.getElem?_eq_getElem hjl
          generalize ls[j] = l at hl
          obtain ⟨kvs, hk, ek⟩ := g2 j dd l hdd hl
          refine ⟨rfl, _, rfl, dd, kvs, rfl, .of (s4 _ _ hk), fun p hp => ?_⟩
          rw [ek]
          have lb : bs.length = j := by rw [L4.1, List.length_take]; omega
          refine ⟨_, by rw [upd_ne (ne_of_none D4 hp)]; exact D4, by rw [List.length_map, lb]; exact lt_line (by omega), (s4.upd_new hp).upd_own hD', bs ++ [p], by rw [upd_same, List.map_append]; rfl, ?_⟩
          have npD : p ≠ D' := fun z => by rw [z, D4] at hp; cases hp
          refine ⟨by rw [List.length_append, L4.1, List.length_take, List.length_take]; show _ + 1 = _; omega, fun m b l' hb hl' => ?_⟩
          have hm' := (List.getElem?_eq_some_iff.mp hb).1
          rw [List.length_append, lb] at hm'
          have : ([p] : List Addr).length = 1 := rfl
          by_cases c : m < j
          · rw [List.getElem?_append_left (by omega)] at hb
            rw [List.getElem?_take_of_lt (by omega)] at hl'
            have hx := L4.2 m b l' hb (by rw [List.getElem?_take_of_lt c]; exact hl')
            have nbp : b ≠ p := fun z => by rw [z, hp] at hx; cases hx
            have nbD : b ≠ D' := fun z => by
              rw [z, D4] at hx
              injection hx with hx
              injection hx with hx
              cases bs with
              | nil => simp at lb; omega
              | cons b0 bs =>
                cases l' with
                | nil => cases hx
                | cons y l' =>
                  injection hx with h1 _
                  cases h1
            rw [upd_ne nbD, upd_ne nbp]
            exact hx
          · have em : m = j := by omega
            subst em
            rw [List.getElem?_append_right (by omega), lb, Nat.sub_self] at hb
            rw [List.getElem?_take_of_lt (by omega), hl] at hl'
            cases hb
            cases hl'
            rw [upd_ne npD, upd_same]
        rintro H4 ⟨s4, bs, D4, L4⟩
        have lds : (ds.map V.ref).length = ls.length := by rw [List.length_map, g1]
        rw [lds, List.take_length] at L4
        refine ⟨D', bs, ls, rfl, D4, L4, by omega, g4, fun H5 L s5 nL WL => ?_⟩
        obtain ⟨us, hL, PL⟩ := WL
        have s35 := s4.trans s5
        have d5 : DtAt VLw H5 d T3 := d3.same s35
        have lus : (us.map V.ref).length = (ways ls).length := by rw [List.length_map, PL.1]
        have hwp : ∀ {ss : List Nat}, ss ∈ ways ls ↔ ∃ xs, Pick Ts ss xs := ways_pick llT g3
        refine ⟨L, rfl, ⟨_, SqL.of hL⟩, for_list (xs := us.map V.ref) (fun m σ H' => ∃ (x10 x11 x12 x13 x14 : Option V) (T : Tb), σ = [some (.ref r), some (.ref a), some (.ref rd), some (.int cut), some (.ref st), some (.str e'), some (.ref bl), some (.ref d), x8, some (.ref t), x10, x11, x12, x13, x14] ∧ Same H H' ∧ DtAt VLw H' d T ∧ H' L = some (.lst (us.map V.ref)) ∧ PlAt nI H' us (ways ls) ∧ Bst (rkS rows) (fun s x => (OLeaf rows D cut s x ∨ OSt D e' Ts ((stepsL rows sws).take i) s x) ∨ OWy D Ts (e', y, k) ((ways ls).take m) s x) T)
          ⟨x10, x11, x12, x13, x14, T3, rfl, s3.trans s35, d5, hL, PL, B3.or fun s x => ⟨fun h => .inl h, fun h => h.elim id fun ⟨q, hq, _⟩ => by rw [List.take_zero] at hq; cases hq⟩⟩ (fun i σ H' _ ⟨_, _, _, _, _, _, _, _, _, h, _⟩ => SqL.of h) ?_ ?_⟩
        · rintro m v σ H6 hv ⟨x10, x11, x12, x13, x14, T6, rfl, s6, d6, L6, P6, B6⟩
          obtain ⟨u, hu0, rfl⟩ := get_map_r hv
          have hml : m < (ways ls).length := by rw [← P6.1]; exact (List.getElem?_eq_some_iff.mp hu0).1
          have hss := List.getElem?_eq_getElem hml
          have hmem2 := List.getElem_mem hml
          have hu6 := P6.2 m u (ways ls)[m] hu0 hss
          generalize (ways ls)[m] = ss at hss hmem2 hu6
          obtain ⟨xs, hp⟩ := hwp.mp hmem2
          obtain ⟨p1, p2, p3, p4⟩ := pick_ok hp hTs
          obtain ⟨l1, l2⟩ := hp.len
          have ht6 := s6 _ _ (hS.2 i t (e', y, k) ht hq)
          refine ⟨_, rfl, t, _, _, _, rfl, rfl, SqT.of ht6, atI_nat (j := 2) rfl, ?_⟩
          refine ⟨_, rfl, t, _, _, _, rfl, rfl, SqT.of ht6, atI_nat (j := 1) rfl, le_line (show 1 ≤ 10000000 by decide), fun p hp0 => ?_⟩
          have s7 := (Same.refl H6).upd_new (o := .tup [.str y]) hp0
          have p7 : (upd H6 p (.tup [.str y])) p = some (.tup (sV [y])) := upd_same
          generalize upd H6 p (.tup [.str y]) = H7 at s7 p7
          refine ⟨_, rfl, u, _, rfl, .inr (SqT.of (s7 _ _ hu6)), _, rfl, by rw [nI_len]; omega, by rw [nI_len]; omega, ?_⟩
          rw [nI_len, Int.toNat_natCast]
          refine for_range (n := ss.length) (fun b σ H' => ∃ (x13 x14 : Option V) (p : Addr), σ = [some (.ref r), some (.ref a), some (.ref rd), some (.int cut), some (.ref st), some (.str e'), some (.ref bl), some (.ref d), x8, some (.ref t), some (.ref u), some (.int (k + sumC (xs.take b))), some (.ref p), x13, x14] ∧ Same H6 H' ∧ Tq H' p (sV (y :: catP (xs.take b))))
            ⟨x13, x14, p, by rw [List.take_zero]; show _ = [some (V.ref r), some (.ref a), some (.ref rd), some (.int cut), some (.ref st), some (.str e'), some (.ref bl), some (.ref d), x8, some (.ref t), some (.ref u), some (.int (k + 0)), some (.ref p), x13, x14]; rw [Int.add_zero]; rfl, s7, .of p7⟩ ?_ ?_
          · rintro b σ H8 hb ⟨x13, x14, p, rfl, s8, p8⟩
            have e0 : (0 : Int) + (b : Nat) = ((b : Nat) : Int) := by omega
            rw [e0]
            have hbT : b < Ts.length := by omega
            have hs := List.getElem?_eq_getElem hb
            have hT0 := List.getElem?_eq_getElem hbT
            have hdd := List.getElem?_eq_getElem (show b < ds.length by rw [hDs.1]; exact hbT)
            obtain ⟨x, hx, hxs⟩ := hp.at hT0 hs
            have hdt := (hDs.2 b _ _ hdd hT0).same (s6.trans s8)
            obtain ⟨v, gv, q, hv, hq2⟩ := hdt.get hxs
            generalize ss[b] = z at hs gv
            generalize ds[b]'(by rw [hDs.1]; exact hbT) = dd at hdd gv
            refine ⟨_, rfl, _, rfl, bl, _, _, _, rfl, rfl, SqL.of ((s6.trans s8) _ _ hbl), at_ofG (j := b) rfl (by rw [List.getElem?_map, hdd]; rfl), _, rfl, _, rfl, u, _, _, _, rfl, rfl, SqT.of (s8 _ _ hu6), at_ofG (j := b) rfl (nI_at hs), dd, _, rfl, gv, ?_⟩
            refine ⟨_, rfl, _, rfl, v, _, _, _, rfl, rfl, SqT.of hv, atI_nat (j := 0) rfl, _, _, rfl, rfl, ?_⟩
            refine ⟨_, rfl, _, rfl, v, _, _, _, rfl, rfl, SqT.of hv, atI_nat (j := 1) rfl, ?_⟩
            have lt1 := catP_take xs b
            have lt2 := catP_take xs (b + 1)
            rw [catP_succ hx, List.length_append] at lt2
            refine catA_s p8 hq2 (by show (catP (xs.take b)).length + 1 + x.2.length ≤ _; omega) fun r' H9 s9 hr9 => ?_
            refine ⟨some (.int ((b : Nat) : Int)), some (.ref v), r', ?_, s8.trans s9, ?_⟩
            · rw [sumC_succ hx, ← Int.add_assoc]
              rfl
            · rw [catP_succ hx]
              exact hr9
          · rintro σ H8 ⟨x13, x14, p, rfl, s8, p8⟩
            have ex : xs.take ss.length = xs := List.take_of_length_le (by omega)
            rw [ex] at p8
            rw [ex]
            have s68 := s6.trans s8
            have hOv := O.val R hy (show ss.length = wR rows y by omega) p1
            have hsl := O.stp_lt R hy (show ss.length = wR rows y by omega) p1
            refine ⟨_, rfl, _, rfl, _, rfl, rd, _, _, _, rfl, rfl, SqL.of (s68 _ _ hrd), atI_nat (j := 1) rfl, _, rfl, t, _, _, _, rfl, rfl, SqT.of (s8 _ _ ht6), atI_nat (j := 1) rfl, _, rfl, le_line (show 2 ≤ 10000000 by decide), fun v hv0 => ?_⟩
            have s9 := s8.upd_new (o := .tup [.str y, .ref u]) hv0
            have s89 := (Same.refl H8).upd_new (o := .tup [.str y, .ref u]) hv0
            have v9 : (upd H8 v (.tup [.str y, .ref u])) v = some (.tup [.str y, .ref u]) := upd_same
            generalize upd H8 v (.tup [.str y, .ref u]) = H9 at s9 s89 v9
            have s69 := s6.trans s9
            refine ⟨tb, v, _, nkR (y, ss), _, rfl, rfl, hnd.sm s69, ⟨u, v9, by rw [s9 _ _ hu6, nI_key]; rfl⟩, hOv, ?_⟩
            refine ⟨_, rfl, _, rfl, a, d, p, D.stp y ss, (k + sumC xs, y :: catP xs), rows, _, T6, rfl, s69 _ _ ha, nad, R, d6.same s9, Nat.lt_of_lt_of_le hsl O.m3, p8.same s89, by show (catP xs).length + 1 ≤ _; omega, fun z hz => ?_, B6, fun s x h => ?_, fun H10 T10 b k10 d10 B10 => ?_⟩
            · rcases List.mem_cons.mp hz with rfl | hz
              · exact hy
              · exact p2 z hz
            · have : OKn rows D cut sws e' Ts s x := by
                rcases h with (h | ⟨⟨e1, y1, k1⟩, h1, rfl, ss1, xs1, h3, h4, h5⟩) | ⟨ss1, h1, xs1, h3, h4, h5⟩
                · exact .inl h
                · exact .inr ⟨ss1, xs1, y1, k1, h3, (steps_mem W he).mp (List.mem_of_mem_take h1), h4, h5⟩
                · exact .inr ⟨ss1, xs1, y, k, h3, hsw, h4, h5⟩
              exact ⟨(kok this).2.2, (kok this).2.1⟩
            · obtain ⟨es6, hes6, _⟩ := id (d6.same s9)
              have kt := k10.tupd hes6
              refine ⟨_, _, _, _, _, T10, rfl, Same.kpd s69 hd k10, d10, k10 _ _ (s9 _ _ L6) (ne_of (s9 _ _ L6) hes6 (fun e => nomatch e)), (P6.keep fun t ys h => s9 _ _ h).keep kt, B10.or fun s x => ?_⟩
              rw [List.take_add_one, hss]
              constructor
              · rintro ((h | ⟨ss1, h1, h2⟩) | ⟨rfl, rfl⟩)
                · exact .inl h
                · exact .inr ⟨ss1, List.mem_append_left _ h1, h2⟩
                · exact .inr ⟨ss, List.mem_append_right _ List.mem_cons_self, xs, hp, rfl, rfl⟩
              · rintro (h | ⟨ss1, h1, xs1, h2, h3, h4⟩)
                · exact .inl (.inl h)
                · rcases List.mem_append.mp h1 with g | g
                  · exact .inl (.inr ⟨ss1, g, xs1, h2, h3, h4⟩)
                  · have es : ss1 = ss := List.mem_singleton.mp g
                    subst es
                    rw [h2.uniq hp] at h4
                    exact .inr ⟨h3, h4⟩
        · rintro σ H6 ⟨x10, x11, x12, x13, x14, T6, rfl, s6, d6, L6, P6, B6⟩
          rw [lus, List.take_length] at B6
          refine ⟨_, _, _, _, _, _, T6, rfl, s6, d6, B6.or fun s x => ?_⟩
          rw [et]
          constructor
          · rintro ((h | ⟨q', hq', h⟩) | ⟨ss, h1, xs, h2, h3, h4⟩)
            · exact .inl h
            · exact .inr ⟨q', List.mem_append_left _ hq', h⟩
            · exact .inr ⟨(e', y, k), List.mem_append_right _ List.mem_cons_self, rfl, ss, xs, h2, h3, h4⟩
          · rintro (h | ⟨q', hq', h⟩)
            · exact .inl (.inl h)
            · rcases List.mem_append.mp hq' with g | g
              · exact .inl (.inr ⟨q', g, h⟩)
              · rw [List.mem_singleton.mp g] at h
                obtain ⟨_, ss, xs, h2, h3, h4⟩ := h
                exact .inr ⟨ss, hwp.mpr ⟨xs, h2⟩, xs, h2, h3, h4⟩
      · have q0 : ¬ q.1 = e := fun h => c (by rw [h]; simp)
        refine ⟨_, _, _, _, _, _, T3, rfl, s3, d3, B3.or fun s x => ?_⟩
        rw [et]
        constructor
        · rintro (h | ⟨q', hq', h⟩)
          · exact .inl h
          · exact .inr ⟨q', List.mem_append_left _ hq', h⟩
        · rintro (h | ⟨q', hq', h⟩)
          · exact .inl h
          · rcases List.mem_append.mp hq' with g | g
            · exact .inr ⟨q', g, h⟩
            · rw [List.mem_singleton.mp g] at h
              exact absurd h.1 q0
    · rintro σ H3 ⟨x9, x10, x11, x12, x13, x14, T3, rfl, s3, d3, B3⟩
      rw [lqs, List.take_length] at B3
      refine ⟨_, rfl, key H3 d T3 s3 hd d3 (B3.or fun s x => ?_)⟩
      unfold OKn
      rw [ost_all W he]
end
end Sh
end
section
set_option Elab.async false
set_option linter.all false
set_option maxRecDepth 100000
set_option maxHeartbeats 16000000
namespace Sh
open PySem PySem.Spec PyProof.Rows L2
open C8 (pss_cut tCut)
open Evl (ixN_nat)
theorem due_lenU {rows : List Row} {l : List Str} (h : l.length ≤ 2000) : due rows false l = (fault rows false l).map Ex.plant := by
  unfold due
  rw [if_neg (by omega)]
  rfl
theorem ok_of_faultU {rows : List Row} {m : Int} (R : ROk m rows) {l : List Str} (h : l.length ≤ 2000) (e : fault rows false l = none) : PlantOk rows l := due_plant R (by rw [due_lenU h, e]; rfl)
theorem tq_updl {H : Hp} {p d : Addr} {xs ys : List V} {o : HO} (h : Tq H p xs) (hd : H d = some (.lst ys)) : Tq (upd H d o) p xs := by
  rcases h with h | ⟨b, h⟩
  · exact .inl (by rw [upd_ne (ne_of h hd (fun e => nomatch e))]; exact h)
  · exact .inr ⟨b, by rw [upd_ne (ne_of h hd (fun e => nomatch e))]; exact h⟩
theorem DtAt.updl {H : Hp} {d L : Addr} {T : Tb} {ys : List V} {o : HO} (h : DtAt VLw H d T) (hl : H L = some (.lst ys)) : DtAt VLw (upd H L o) d T := by
  obtain ⟨es, hes, _⟩ := id h
  refine h.keep (upd_ne (ne_of hes hl (fun e => nomatch e))) fun a x ⟨p, h1, h2⟩ => ⟨p, ?_, tq_updl h2 hl⟩
  rw [upd_ne (ne_of h1 hl (fun e => nomatch e))]
  exact h1
theorem DsAt.updl {H : Hp} {ds : List Addr} {Ts : List Tb} {L : Addr} {ys : List V} {o : HO} (h : DsAt VLw H ds Ts) (hl : H L = some (.lst ys)) : DsAt VLw (upd H L o) ds Ts := ⟨h.1, fun i d T a b => (h.2 i d T a b).updl hl⟩
theorem DsAt.take {α : Type} {Vl : Hp → Addr → α → Prop} {H : Hp} {ds : List Addr} {Ts : List (Nat → Option α)} (h : DsAt Vl H ds Ts) (n : Nat) : DsAt Vl H (ds.take n) (Ts.take n) := ⟨by rw [List.length_take, List.length_take, h.1], fun i d T a b => by
  have hi := (List.getElem?_eq_some_iff.mp a).1
  rw [List.length_take] at hi
  rw [List.getElem?_take_of_lt (by omega)] at a b
  exact h.2 i d T a b⟩
theorem DsAt.drop {α : Type} {Vl : Hp → Addr → α → Prop} {H : Hp} {ds : List Addr} {Ts : List (Nat → Option α)} (h : DsAt Vl H ds Ts) (n : Nat) : DsAt Vl H (ds.drop n) (Ts.drop n) := ⟨by rw [List.length_drop, List.length_drop, h.1], fun i d T a b => by
  rw [List.getElem?_drop] at a b
  exact h.2 _ d T a b⟩
theorem DsAt.cons {α : Type} {Vl : Hp → Addr → α → Prop} {H : Hp} {ds : List Addr} {Ts : List (Nat → Option α)} {d : Addr} {T : Nat → Option α} (h : DsAt Vl H ds Ts) (h0 : DtAt Vl H d T) : DsAt Vl H (d :: ds) (T :: Ts) := ⟨by rw [List.length_cons, List.length_cons, h.1], fun i d' T' a b => by
  cases i with
  | zero => cases a; cases b; exact h0
  | succ i => exact h.2 i d' T' a b⟩
theorem TStk.len {rows : List Row} {D : RdD} {cut : Int} {sws : List Swap} {r : Str → Nat} {l : List Str} {S : List Tb} (h : TStk rows D cut sws r l S) : S.length ≤ l.length := by
  induction h with
  | nil => exact Nat.le_refl _
  | cons _ _ _ ih =>
    rw [List.length_append] at ih
    rw [List.length_cons, List.length_cons]
    omega
def VAns (H : Hp) (v : V) (o : Option Cp) : Prop := match o with
  | none => v = .non
  | some x => ∃ t, v = .ref t ∧ VLw H t x
theorem VAns.same {H H' : Hp} {v : V} {o : Option Cp} (h : VAns H v o) (s : Same H H') : VAns H' v o := by
  cases o with
  | none => exact h
  | some x =>
    obtain ⟨t, h1, h2⟩ := h
    exact ⟨t, h1, h2.same s⟩
def DuIs (rows : List Row) (D : RdD) (cut : Int) (sws : List Swap) (l : List Str) (H : Hp) (q : Addr) : Prop := match fault rows false l with
  | some i => H q = some (.tup [.str "invalid", .int ((i : Nat) : Int)])
  | none => ∃ o v, AnsIs rows D cut sws (rkS rows) l o ∧ VAns H v o ∧ H q = some (.tup [.str "told", v])
theorem DuIs.same {rows : List Row} {D : RdD} {cut : Int} {sws : List Swap} {l : List Str} {H H' : Hp} {q : Addr} (h : DuIs rows D cut sws l H q) (s : Same H H') : DuIs rows D cut sws l H' q := by
  unfold DuIs at h ⊢
  cases e : fault rows false l with
  | some i => rw [e] at h; exact s _ _ h
  | none =>
    rw [e] at h
    obtain ⟨o, v, h1, h2, h3⟩ := h
    exact ⟨o, v, h1, h2.same s, s _ _ h3⟩
def spDue52 (P : Program) (w : World) : Sp := fun vs H Q _ => ∃ (r ar rd sl p : Addr) (cut : Int) (rows : List Row) (D : RdD) (sws : List Swap) (l : List Str), vs = [.ref r, .ref ar, .ref rd, .int cut, .ref sl, .ref p] ∧ RowsAt H r rows ∧ H ar = some (.dK (wL rows)) ∧ ROk 4 rows ∧ LrAt P w H rd D ∧ D.Ok rows ∧ SwsAt H sl sws ∧ SwOk rows sws ∧ GoodB rows sws sws.length ∧ Tq H p (sV l) ∧ l.length ≤ 2000 ∧ ∀ H' q, Same H H' → DuIs rows D cut sws l H' q → Q (.ref q) H'
theorem LrAt.same {P : Program} {w : World} {H H' : Hp} {a : Addr} {D : RdD} (h : LrAt P w H a D) (s : Same H H') : LrAt P w H' a D := by
  obtain ⟨t, m, r, us, h1, h2, h3, h4, h5⟩ := h
  exact ⟨t, m, r, us, s _ _ h1, h2.sm s, s _ _ h3, s _ _ h4, h5.keep fun _ _ q => s _ _ q⟩
abbrev N_law_due : List Str := ["kinds", "arity", "reader", "cutting", "swaps", "plant", "place", "rank", "steps", "stack", "entry", "below", "turn", "found", "state"]
theorem sc_law_due : FnScope N_law_due ["kinds", "arity", "reader", "cutting", "swaps", "plant"] (defScope s_law_due) := ⟨rfl, rfl, rfl, by decide +kernel, rfl, by decide +kernel, by decide +kernel⟩
section
variable {P : Program} {w : World} {K : PySem.W.Frag} {mg : Str → Option Value} {base : Heap}
theorem ok_due52 (T : Bp mg) (c_law_fault : DefOk P w K mg base CX0 1 "_law_fault" spFault51) (c_law_rank : DefOk P w K mg base CX0 1 "_law_rank" spRank52) (c_law_steps : DefOk P w K mg base CX0 1 "_law_steps" spSteps52) (c_law_knot : DefOk P w K mg base CX0 3 "_law_knot" (spKnot52 P w)) (c_law_offer : DefOk P w K mg base CX0 2 "_law_offer" spOffer52) (D : Def0 K mg "_law_due" s_law_due) : DefOk P w K mg base CX0 4 "_law_due" (spDue52 P w) := by
  refine D.ok sc_law_due (fun vs H Q E h => ?_) (fun _ _ _ _ _ _ us hl => match us, hl with | [_, _, _, _, _, _], _ => rfl) (fun f cdv A outer s' H vs Q E hr h => ?_)
  · obtain ⟨r, ar, rd, sl, p, cut, rows, D, sws, l, rfl, _⟩ := h
    rfl
  · obtain ⟨r, ar, rd, sl, p, cut, rows, D, sws, l, rfl, hR, har, R, hL, O, hS, W, W2, hp, ll, key⟩ := h
    have hu := hu_of hr
    refine ⟨_, (pss_cons (ps_set (i := 6) sc_law_due.nd rfl (Or.inl rfl) (pe_d c_law_fault (hr.mono (by decide)) pass0 (pa_cons (pv 1) (pa_cons (pv 5) pa_nil))))
      (pss_cons (ps_if (pt_cmpR op_ge (pv 6) pe_int (nomark _))
        (pss_one (ps_ret (pe_tup (pa_cons pe_str (pa_cons (pv 6) pa_nil)))))
        pss_nil)
      (pss_cons (ps_set (i := 7) sc_law_due.nd rfl (Or.inl rfl) (pe_d c_law_rank (hr.mono (by decide)) pass0 (pa_cons (pv 0) pa_nil)))
      (pss_cons (ps_set (i := 8) sc_law_due.nd rfl (Or.inl rfl) (pe_d c_law_steps (hr.mono (by decide)) pass0 (pa_cons (pv 0) (pa_cons (pv 4) pa_nil))))
      (pss_cons (ps_set (i := 9) sc_law_due.nd rfl (Or.inl rfl) (pe_lst pa_nil))
      (pss_cons (ps_for PassesOwn.never rfl (RT.pi_revA (by rfl) T.b_reversed (pv 5)) (pg_name (i := 10) sc_law_due.nd rfl (Or.inl rfl))
        (pss_cons (ps_set (i := 11) sc_law_due.nd rfl (Or.inl rfl) (pe_lst pa_nil))
        (pss_cons (ps_for PassesOwn.never rfl (pi_range1 (by rfl) T.b_range (pa_cons (pe_dget hu (pv 1) (pv 10) (fun _ _ => rfl)) pa_nil)) (pg_name (i := 12) sc_law_due.nd rfl (Or.inl rfl))
          (pss_one (ps_expr (pe_bm PySem.F.plainAttrs_list PySem.F.slot_list_append PySem.F.type_list_append mt_append (pv 11) (pa_cons (pe_bm0 PySem.F.plainAttrs_list PySem.F.slot_list_pop PySem.F.type_list_pop mt_pop (pv 9)) pa_nil)))))
        (pss_one (ps_expr (pe_bm PySem.F.plainAttrs_list PySem.F.slot_list_append PySem.F.type_list_append mt_append (pv 9) (pa_cons (pe_d c_law_knot (hr.mono (by decide)) pass0 (pa_cons (pv 0) (pa_cons (pv 7) (pa_cons (pv 2) (pa_cons (pv 3) (pa_cons (pv 8) (pa_cons (pv 10) (pa_cons (pv 11) pa_nil)))))))) pa_nil)))))))
      (pss_cons (ps_set (i := 13) sc_law_due.nd rfl (Or.inl rfl) pe_dnewK)
      (pss_cons (ps_for PassesOwn.never rfl (pi_list (pe_ix ix_list (pv 2) pe_int (fun _ _ => rfl))) (pg_name (i := 14) sc_law_due.nd rfl (Or.inl rfl))
        (pss_one (ps_if (pt_cmp (pc_din hu (pv 14) (pe_ix ix_list (pv 9) pe_int (fun _ _ => rfl))))
          (pss_one (ps_expr (pe_d c_law_offer (hr.mono (by decide)) pass0 (pa_cons (pv 7) (pa_cons (pv 13) (pa_cons pe_int (pa_cons (pe_ix ix_tup (pe_dget hu (pe_ix ix_list (pv 9) pe_int (fun _ _ => rfl)) (pv 14) (fun _ _ => rfl)) pe_int (fun _ _ => rfl)) (pa_cons (pe_ix ix_tup (pe_dget hu (pe_ix ix_list (pv 9) pe_int (fun _ _ => rfl)) (pv 14) (fun _ _ => rfl)) pe_int (fun _ _ => rfl)) pa_nil))))))))
          pss_nil)))
      (pss_cons (ps_if (pt_cmp (pc_din hu pe_int (pv 13)))
        (pss_one (ps_ret (pe_tup (pa_cons pe_str (pa_cons (pe_dget hu (pv 13) pe_int (fun _ _ => rfl)) pa_nil)))))
        pss_nil)
      (pss_one (ps_ret (pe_tup (pa_cons pe_str (pa_cons pe_non pa_nil)))))))))))))), ?_⟩
    refine ⟨_, rfl, _, rfl, ar, p, rows, l, rfl, har, R, hp, ll, ?_⟩
    refine ⟨_, rfl, _, _, rfl, rfl, _, rfl, ?_⟩
    unfold fltI
    unfold DuIs at key
    cases e : fault rows false l with
    | some i =>
      rw [e] at key
      refine ifp (decide_eq_true (by show (0 : Int) ≤ ((i : Nat) : Int); omega)) ⟨_, rfl, le_line (show 2 ≤ 10000000 by decide), fun q hq => key _ q ((Same.refl H).upd_new hq) upd_same⟩
    | none =>
    rw [e] at key
    have key : ∀ H' q, Same H H' → (∃ o v, AnsIs rows D cut sws (rkS rows) l o ∧ VAns H' v o ∧ H' q = some (.tup [.str "told", v])) → Q (.ref q) H' := key
    have OL := ok_of_faultU R ll e
    refine ifn (by decide) ?_
    refine ⟨_, rfl, r, rows, rfl, hR, R, fun H1 rk s1 rk1 => ?_⟩
    refine ⟨_, rfl, _, rfl, r, sl, rows, sws, rfl, hR.same s1, R, hS.same s1, by have := W.len; omega, fun H2 st s2 st2 => ?_⟩
    have s02 := s1.trans s2
    have rk2 := s2 _ _ rk1
    refine ⟨le_line (show 0 ≤ 10000000 by decide), fun SK hSK => ?_⟩
    have s03 := s02.upd_new (o := .lst []) hSK
    have s23 := (Same.refl H2).upd_new (o := .lst []) hSK
    have SK3 : (upd H2 SK (.lst [])) SK = some (.lst ((([] : List Addr).reverse).map V.ref)) := upd_same
    generalize upd H2 SK (.lst []) = H3 at s03 s23 SK3
    have lsV : (sV l).length = l.length := sV_len l
    refine ⟨_, rfl, p, _, rfl,   .inr ⟨(hp.same s03).sq, RT.for_ItvT (xs := sV l) (fun i σ H' => ∃ (x10 x11 x12 : Option V) (ds : List Addr) (S : List Tb), σ = [some (.ref r), some (.ref ar), some (.ref rd), some (.int cut), some (.ref sl), some (.ref p), some (.int (-1)), some (.ref rk), some (.ref st), some (.ref SK), x10, x11, x12, none, none] ∧ Same H2 H' ∧ H' SK = some (.lst ((ds.reverse).map V.ref)) ∧ DsAt VLw H' ds S ∧ TStk rows D cut sws (rkS rows) (l.drop (l.length - i)) S)
      ⟨none, none, none, [], [], rfl, s23, SK3, ⟨rfl, fun i d T h => by simp at h⟩, by rw [Nat.sub_zero, List.drop_length]; exact .nil⟩ (fun i σ H' ⟨_, _, _, _, _, _, s, _⟩ => (hp.same (s02.trans s)).sq) ?_ ?_⟩⟩
    · rintro i v σ H4 hi hv ⟨x10, x11, x12, ds, S, rfl, s4, SK4, DS4, TS4⟩
      rw [lsV] at hi hv
      have hil : l.length - 1 - i < l.length := by omega
      have hz := List.getElem?_eq_getElem hil
      have hzk := OL.k _ (List.getElem_mem hil)
      have edr : l.drop (l.length - (i + 1)) = l[l.length - 1 - i] :: l.drop (l.length - i) := by
        rw [show l.length - (i + 1) = l.length - 1 - i by omega, List.drop_eq_getElem_cons hil, show l.length - 1 - i + 1 = l.length - i by omega]
      rw [sV_get hz] at hv
      injection hv with hv
      subst hv
      have hf : ∃ m, Mth.forest (wR rows) (l.drop (l.length - (i + 1))) m = true := forest_suf (a := l.take (l.length - (i + 1))) (k := 1) (by rw [List.take_append_drop]; exact OL.f)
      rw [edr] at hf
      generalize hzz : l[l.length - 1 - i] = z at edr hzk hf
      obtain ⟨m, hm⟩ := hf
      cases m with
      | zero => cases hm
      | succ m =>
      have hSl : S.length = wR rows z + m := f_uq _ _ _ _ TS4.forest hm
      have hdl : ds.length = S.length := DS4.1
      have hSn := TS4.len
      rw [List.length_drop] at hSn
      refine ⟨le_line (show 0 ≤ 10000000 by decide), fun B hB => ?_⟩
      have s5 := s4.upd_new (o := .lst []) hB
      have s45 := (Same.refl H4).upd_new (o := .lst []) hB
      have B5 : (upd H4 B (.lst [])) B = some (.lst ((ds.take 0).map V.ref)) := upd_same
      have SK5 := s45 _ _ SK4
      have nSB : SK ≠ B := ne_of_none SK4 hB
      have DS5 := DS4.same s45
      have hB2 := s4.free hB
      generalize upd H4 B (.lst []) = H5 at s5 s45 B5 SK5 DS5
      have hw3 : wR rows z ≤ 3 := wR_le R z
      have gW : ∀ {H' : Hp}, Same H2 H' → DGet H' ar (.str z) (some (.int ((wR rows z : Nat) : Int))) := fun {H'} s => by
        have := DGet.k (k := .inr z) ((s02.trans s) _ _ har)
        rw [val_wL R hzk] at this
        exact this
      refine ⟨_, rfl, _, rfl, ar, _, rfl, gW s5, _, rfl, by omega, by omega, ?_⟩
      rw [Int.toNat_natCast]
      refine for_range (n := wR rows z) (fun j σ H' => ∃ (x12 : Option V), σ = [some (.ref r), some (.ref ar), some (.ref rd), some (.int cut), some (.ref sl), some (.ref p), some (.int (-1)), some (.ref rk), some (.ref st), some (.ref SK), some (.str z), some (.ref B), x12, none, none] ∧ Same H2 H' ∧ H' SK = some (.lst (((ds.drop j).reverse).map V.ref)) ∧ H' B = some (.lst ((ds.take j).map V.ref)) ∧ DsAt VLw H' ds S)
        ⟨x12, rfl, s5, SK5, B5, DS5⟩ ?_ ?_
      · rintro j σ H6 hj ⟨x12, rfl, s6, SK6, B6, DS6⟩
        have hjd : j < ds.length := by omega
        have ed := List.drop_eq_getElem_cons hjd
        have et : ds.take (j + 1) = ds.take j ++ [ds[j]] := by rw [List.take_add_one, List.getElem?_eq_getElem hjd]; rfl
        generalize ds[j] = dd at ed et
        rw [ed, List.reverse_cons, List.map_append] at SK6
        have eL : ∀ xs : List V, (xs ++ [V.ref dd])[(xs ++ [V.ref dd]).length - 1]? = some (.ref dd) := fun xs => by
          rw [List.length_append, show ([V.ref dd] : List V).length = 1 from rfl, Nat.add_sub_cancel, List.getElem?_append_right (Nat.le_refl _), Nat.sub_self]
          rfl
        refine ⟨_, rfl, .inl ⟨rfl, _, SqL.of B6⟩, _, rfl, .inl ⟨rfl, _, SqL.of SK6⟩, SK, _, V.ref dd, rfl, rfl, SK6, eL _, ?_⟩
        show ∃ l, _
        rw [show ([dd] : List Addr).map V.ref = [V.ref dd] from rfl, List.dropLast_concat]
        refine ⟨B, _, _, rfl, rfl, by rw [upd_ne nSB.symm]; exact B6, by rw [List.length_map, List.length_take]; exact lt_line (by omega), ?_⟩
        have SKx : (upd H6 SK (.lst ((ds.drop (j + 1)).reverse.map V.ref))) B = some (.lst ((ds.take j).map V.ref)) := by rw [upd_ne nSB.symm]; exact B6
        refine ⟨_, rfl, (s6.upd_own hSK).upd_own hB2, by rw [upd_ne nSB, upd_same], by rw [upd_same, et, List.map_append]; rfl, (DS6.updl SK6).updl SKx⟩
      · rintro σ H6 ⟨x12, rfl, s6, SK6, B6, DS6⟩
        have s06 := s02.trans s6
        obtain ⟨nss, hTB, hsum⟩ := TS4.ok R O W2 fun y hy => OL.k y (List.mem_of_mem_drop hy)
        rw [← List.take_append_drop (wR rows z) S] at hTB TS4
        obtain ⟨n1, n2, rfl, hT1, hT2⟩ := hTB.split
        rw [List.sum_append, List.length_drop] at hsum
        refine ⟨_, rfl, .inl ⟨rfl, _, SqL.of SK6⟩, _, rfl, _, rfl, _, rfl, _, rfl, _, rfl, _, rfl, _, rfl, r, rk, rd, st, B, ds.take (wR rows z), cut, z, rows, D, sws, S.take (wR rows z), n1, rfl, hR.same s06, R, s6 _ _ rk2, hL.same s06, O, st2.same s6, W, W2, hzk, B6, DS6.take _, hT1, by omega, by rw [List.length_take]; omega, fun H7 d T s7 hd d7 B7 => ?_⟩
        have SK7 := s7 _ _ SK6
        refine ⟨SK, _, _, rfl, rfl, SK7, by rw [List.length_map, List.length_reverse, List.length_drop]; exact lt_line (by omega), ?_⟩
        refine ⟨_, _, _, d :: ds.drop (wR rows z), T :: S.drop (wR rows z), rfl, (s6.trans s7).upd_own hSK, by rw [upd_same, List.reverse_cons, List.map_append]; rfl, (((DS6.drop _).same s7).cons d7).updl SK7, ?_⟩
        rw [edr]
        exact .cons TS4 (by rw [List.length_take]; omega) B7
    · rintro σ H4 ⟨x10, x11, x12, ds, S, rfl, s4, SK4, DS4, TS4⟩
      rw [lsV, Nat.sub_self, List.drop_zero] at TS4
      have hS1 : S.length = 1 := f_uq _ _ _ _ TS4.forest OL.f
      have hd1 : ds.length = 1 := DS4.1.trans hS1
      obtain ⟨T, rfl⟩ := List.length_eq_one_iff.mp hS1
      obtain ⟨d, rfl⟩ := List.length_eq_one_iff.mp hd1
      obtain ⟨nss, hTB, hsum⟩ := TS4.ok R O W2 OL.k
      have dT := DS4.2 0 d T rfl rfl
      cases hTB with
      | @cons n0 _ _ _ tb _ =>
      intro F hF
      obtain ⟨tb0, tm, trw, tus, hrd, _, hmk, _, _⟩ := hL
      have s5 := s4.upd_new (o := .dK []) hF
      have s45 := (Same.refl H4).upd_new (o := .dK []) hF
      have F5 : DtAt VLw (upd H4 F (.dK [])) F (fun _ => none) := .nil upd_same
      generalize upd H4 F (.dK []) = H5 at s5 s45 F5
      have nrF : rk ≠ F := ne_of_none (s4 _ _ rk2) hF
      refine ⟨_, rfl, rd, _, _, _, rfl, rfl, SqL.of ((s02.trans s5) _ _ hrd), atI_nat (j := 2) rfl, tm, rfl, ⟨_, SqL.of ((s02.trans s5) _ _ hmk)⟩, for_list (xs := nI D.marks) (fun i σ H' => ∃ (x14 : Option V) (FT : Tb), σ = [some (.ref r), some (.ref ar), some (.ref rd), some (.int cut), some (.ref sl), some (.ref p), some (.int (-1)), some (.ref rk), some (.ref st), some (.ref SK), x10, x11, x12, some (.ref F), x14] ∧ Same H4 H' ∧ DtAt VLw H' F FT ∧ Bst (rkS rows) (fun s x => s = 0 ∧ ∃ m ∈ D.marks.take i, T m = some x) FT)
        ⟨none, _, rfl, s45, F5, (Bst.nil _).or fun s x => ⟨fun h => h.elim, fun ⟨_, q, hq, _⟩ => by rw [List.take_zero] at hq; cases hq⟩⟩ (fun i σ H' _ ⟨_, _, _, s, _⟩ => SqL.of ((s02.trans (s4.trans s)) _ _ hmk)) ?_ ?_⟩
      · rintro i v σ H6 hv ⟨x14, FT, rfl, s6, F6, B6⟩
        have him : i < D.marks.length := by rw [← nI_len D.marks]; exact (List.getElem?_eq_some_iff.mp hv).1
        have hm := List.getElem?_eq_getElem him
        rw [nI_at hm] at hv
        injection hv with hv
        subst hv
        generalize D.marks[i] = m at hm
        have et : D.marks.take (i + 1) = D.marks.take i ++ [m] := by rw [List.take_add_one, hm]; rfl
        have SK6 := s6 _ _ SK4
        have d6 := dT.same s6
        cases ht : T m with
        | none =>
          refine ⟨_, rfl, _, rfl, SK, _, _, _, rfl, rfl, SqL.of SK6, atI_nat (j := 0) rfl, d, _, rfl, d6.no ht, _, rfl, ifn (by simp) ⟨_, FT, rfl, s6, F6, B6.or fun s x => ?_⟩⟩
          rw [et]
          constructor
          · rintro ⟨h, q, hq, hx⟩
            exact ⟨h, q, List.mem_append_left _ hq, hx⟩
          · rintro ⟨h, q, hq, hx⟩
            rcases List.mem_append.mp hq with g | g
            · exact ⟨h, q, g, hx⟩
            · rw [List.mem_singleton.mp g, ht] at hx
              cases hx
        | some x =>
          obtain ⟨v, gv, pp, hv, hpp⟩ := d6.get ht
          refine ⟨_, rfl, _, rfl, SK, _, _, _, rfl, rfl, SqL.of SK6, atI_nat (j := 0) rfl, d, _, rfl, gv, _, rfl, ifp rfl ?_⟩
          refine ⟨_, rfl, _, rfl, _, rfl, SK, _, _, _, rfl, rfl, SqL.of SK6, atI_nat (j := 0) rfl, _, rfl, d, _, rfl, gv, v, _, _, _, rfl, rfl, SqT.of hv, atI_nat (j := 0) rfl, _, rfl, SK, _, _, _, rfl, rfl, SqL.of SK6, atI_nat (j := 0) rfl, _, rfl, d, _, rfl, gv, v, _, _, _, rfl, rfl, SqT.of hv, atI_nat (j := 1) rfl, ?_⟩
          refine ⟨rk, F, pp, 0, x, rows, _, FT, rfl, s6 _ _ (s4 _ _ rk2), nrF, R, F6, by decide, hpp, by have := tb.ln m x ht; simp at hsum; omega, tb.nm m x ht, B6, fun s y ⟨_, q, hq, hy⟩ => ⟨by have := tb.ln q y hy; simp at hsum; omega, tb.nm q y hy⟩, fun H7 FT7 b k7 F7 B7 => ⟨_, FT7, rfl, Same.kpd s6 hF k7, F7, B7.or fun s y => ?_⟩⟩
          rw [et]
          constructor
          · rintro (⟨h, q, hq, hx⟩ | ⟨rfl, rfl⟩)
            · exact ⟨h, q, List.mem_append_left _ hq, hx⟩
            · exact ⟨rfl, m, List.mem_append_right _ List.mem_cons_self, ht⟩
          · rintro ⟨h, q, hq, hx⟩
            rcases List.mem_append.mp hq with g | g
            · exact .inl ⟨h, q, g, hx⟩
            · rw [List.mem_singleton.mp g, ht] at hx
              injection hx with hx
              exact .inr ⟨h, hx.symm⟩
      · rintro σ H6 ⟨x14, FT, rfl, s6, F6, B6⟩
        rw [nI_len, List.take_length] at B6
        have s06 := s02.trans (s4.trans s6)
        have b0 := B6 0
        cases hf : FT 0 with
        | none =>
          rw [hf] at b0
          refine ⟨_, rfl, F, _, rfl, F6.no hf, _, rfl, ifn (by simp) ⟨le_line (show 2 ≤ 10000000 by decide), fun q hq => ?_⟩⟩
          refine key _ q (s06.upd_new hq) ⟨none, .non, ⟨T, TS4, fun m hm => ?_⟩, rfl, upd_same⟩
          cases ht : T m with
          | none => rfl
          | some x => exact absurd ⟨rfl, m, hm, ht⟩ (b0 x)
        | some x =>
          rw [hf] at b0
          obtain ⟨v, gv, hv⟩ := F6.get hf
          refine ⟨_, rfl, F, _, rfl, gv, _, rfl, ifp rfl ⟨_, rfl, F, _, rfl, gv, le_line (show 2 ≤ 10000000 by decide), fun q hq => ?_⟩⟩
          refine key _ q (s06.upd_new hq) ⟨some x, .ref v, ⟨T, TS4, b0.1.2, fun m hm y hy => b0.2 y ⟨rfl, m, hm, hy⟩⟩, ⟨v, rfl, hv.same ((Same.refl H6).upd_new hq)⟩, upd_same⟩
end
end Sh
end
section
set_option Elab.async false
set_option linter.all false
set_option maxRecDepth 100000
set_option maxHeartbeats 4000000
namespace L2
open PySem PySem.Spec PyProof.Rows
/-- a dict, locked from here on -/
theorem pe_lockV {X : Cx} {e : Expr} {t : TE} (h : PE X e t) : PE X e (fun σ H Q => t σ H fun x H1 => ∃ d kvs, x = V.ref d ∧ H1 d = some (.dK kvs) ∧ ∀ od, Q x (upd H1 d (.frz od (.dK kvs)))) := by
  refine ⟨fun pins s σ H Q I hw => ?_⟩
  refine thn (h.run pins s σ _ _ I hw) fun v s1 ⟨x, H1, I1, r, d, kvs, ex, hd, q⟩ => ?_
  obtain ⟨od, I2⟩ := I1.lock hd trivial
  exact ⟨x, _, I2, r, q od⟩
end L2
namespace Sh
open PySem PySem.Spec PyProof.Rows L2
open C8 (pss_cut tCut)
open Evl (ixN_nat)
def unK : Key → Str
  | .inr z => z
  | .inl _ => ""
def trS (ns : List FN) (i : Nat) : List Str := (tr ns i).map unK
def catS (ns : List FN) (cs : List Nat) : List Str := (cs.map (trS ns)).flatten
structure FoOk (rows : List Row) (S : FS) : Prop where
  W : WF S.ns
  A : ∀ n ∈ S.ns, ∃ z, n.1 = .inr z ∧ HasN rows z ∧ n.2.length = wR rows z
  N : S.ns.Nodup
  lz : S.zs.length = S.ns.length
  Z : ∀ i, i < S.ns.length → S.zs.getD i 0 = (trS S.ns i).length
theorem FoOk.nil (rows : List Row) : FoOk rows ⟨[], [], []⟩ := ⟨fun i n h => by simp at h, fun n h => (nomatch h), List.nodup_nil, rfl, fun i h => absurd h (Nat.not_lt_zero _)⟩
theorem catS_cons (ns : List FN) (c : Nat) (cs : List Nat) : catS ns (c :: cs) = trS ns c ++ catS ns cs := by
  unfold catS
  rw [List.map_cons, List.flatten_cons]
theorem catS_map (ns : List FN) (cs : List Nat) : ((cs.map (tr ns)).flatten).map unK = catS ns cs := by
  unfold catS trS
  rw [List.map_flatten, List.map_map]
  rfl
section
variable {rows : List Row} {S : FS}
theorem FoOk.at (F : FoOk rows S) {i : Nat} (hi : i < S.ns.length) : ∃ z cs, S.ns[i]? = some (.inr z, cs) ∧ HasN rows z ∧ cs.length = wR rows z ∧ (∀ c ∈ cs, c < i) ∧ trS S.ns i = z :: catS S.ns cs ∧ tr S.ns i = .inr z :: (cs.map (tr S.ns)).flatten := by
  have g := List.getElem?_eq_getElem hi
  obtain ⟨z, h1, h2, h3⟩ := F.A _ (List.getElem_mem hi)
  have hw := F.W i _ g
  have he := tr_eq F.W g
  generalize S.ns[i] = n at g h1 h3 hw he
  obtain ⟨k, cs⟩ := n
  have h1 : k = .inr z := h1
  subst h1
  refine ⟨z, cs, g, h2, h3, hw, ?_, he⟩
  unfold trS
  rw [he, List.map_cons, catS_map]
  rfl
theorem FoOk.inr (F : FoOk rows S) : ∀ i, i < S.ns.length → tr S.ns i = (trS S.ns i).map Sum.inr := fun i => by
  induction i using Nat.strongRecOn with
  | ind i ih =>
    intro hi
    obtain ⟨z, cs, _, _, _, hc, e1, e2⟩ := F.at hi
    rw [e2, e1, List.map_cons]
    congr 1
    unfold catS
    rw [List.map_flatten, List.map_map]
    congr 1
    exact List.map_congr_left fun c h => ih c (hc c h) (Nat.lt_trans (hc c h) hi)
theorem FoOk.one (F : FoOk rows S) : ∀ i, i < S.ns.length → OneT (wR rows) (trS S.ns i) ∧ ∀ z ∈ trS S.ns i, HasN rows z := fun i => by
  induction i using Nat.strongRecOn with
  | ind i ih =>
    intro hi
    obtain ⟨z, cs, _, hz, hl, hc, e1, _⟩ := F.at hi
    have go : ∀ l : List Nat, (∀ c ∈ l, c < i) → (∀ (r : List Str) (m : Nat), Mth.forest (wR rows) (catS S.ns l ++ r) (l.length + m) = Mth.forest (wR rows) r m) ∧ ∀ y ∈ catS S.ns l, HasN rows y := fun l => by
      induction l with
      | nil => exact fun _ => ⟨fun r m => by show Mth.forest _ ([] ++ r) (0 + m) = _; rw [List.nil_append, Nat.zero_add], fun y h => (nomatch h)⟩
      | cons c l il =>
        intro h
        obtain ⟨i1, i2⟩ := il fun c hc => h c (List.mem_cons_of_mem _ hc)
        obtain ⟨o1, o2⟩ := ih c (h c List.mem_cons_self) (Nat.lt_trans (h c List.mem_cons_self) hi)
        rw [catS_cons]
        refine ⟨fun r m => ?_, fun y hy => ?_⟩
        · rw [List.append_assoc, List.length_cons, show l.length + 1 + m = (l.length + m) + 1 by omega, o1]
          exact i1 r m
        · rcases List.mem_append.mp hy with q | q
          · exact o2 y q
          · exact i2 y q
    obtain ⟨g1, g2⟩ := go cs hc
    rw [e1]
    refine ⟨fun r m => ?_, fun y hy => ?_⟩
    · show Mth.forest (wR rows) (catS S.ns cs ++ r) (wR rows z + m) = _
      rw [← hl]
      exact g1 r m
    · rcases List.mem_cons.mp hy with rfl | q
      · exact hz
      · exact g2 y q
theorem FoOk.inj (F : FoOk rows S) {i j : Nat} (hi : i < S.ns.length) (hj : j < S.ns.length) (h : trS S.ns i = trS S.ns j) : i = j :=
  tr_inj (w := fun k => wR rows (unK k)) F.W (fun n hn => by
    obtain ⟨z, h1, _, h3⟩ := F.A n hn
    rw [h3, h1]
    rfl) F.N i hi j hj (by rw [F.inr i hi, F.inr j hj, h])
/-- a node is added -/
theorem FoOk.add (F : FoOk rows S) {z : Str} {cs : List Nat} (hz : HasN rows z) (hl : cs.length = wR rows z) (hc : ∀ c ∈ cs, c < S.ns.length) : FoOk rows (S.add (.inr z, cs)).2 ∧ (∀ i, i < S.ns.length → trS (S.add (.inr z, cs)).2.ns i = trS S.ns i) ∧ trS (S.add (.inr z, cs)).2.ns (S.add (.inr z, cs)).1 = z :: catS S.ns cs ∧ (S.add (.inr z, cs)).1 < (S.add (.inr z, cs)).2.ns.length ∧ S.ns.length ≤ (S.add (.inr z, cs)).2.ns.length ∧ (S.add (.inr z, cs)).2.ns.length ≤ S.ns.length + 1 := by
  obtain ⟨t1, t2, t3⟩ := FS.add_tr (n := (.inr z, cs)) F.W hc
  obtain ⟨l1, l2, l3⟩ := FS.add_lt S (.inr z, cs)
  have keep : ∀ i, i < S.ns.length → trS (S.add (.inr z, cs)).2.ns i = trS S.ns i := fun i hi => by unfold trS; rw [t2 i hi]
  have new : trS (S.add (.inr z, cs)).2.ns (S.add (.inr z, cs)).1 = z :: catS S.ns cs := by
    unfold trS
    rw [t3, List.map_cons, catS_map]
    rfl
  refine ⟨⟨t1, fun n hn => ?_, FS.add_nodup F.N, ?_, fun i hi => ?_⟩, keep, new, l1, l2, l3⟩
  · rcases FS.add_mem hn with q | q
    · exact F.A n q
    · rw [q]
      exact ⟨z, rfl, hz, hl⟩
  · cases e : fidx S.ns (.inr z, cs) with
    | some i => rw [FS.add_some e]; exact F.lz
    | none =>
      rw [FS.add_none e]
      show (S.zs ++ _).length = (S.ns ++ _).length
      rw [List.length_append, List.length_append, F.lz]
      rfl
  · cases e : fidx S.ns (.inr z, cs) with
    | some j => rw [FS.add_some e] at hi ⊢; exact F.Z i hi
    | none =>
      by_cases c : i < S.ns.length
      · rw [keep i c, ← F.Z i c, FS.add_none e]
        show (S.zs ++ _).getD i 0 = _
        rw [List.getD_eq_getElem?_getD, List.getD_eq_getElem?_getD, List.getElem?_append_left (by rw [F.lz]; exact c)]
      · have ei : i = (S.add (.inr z, cs)).1 := by
          rw [FS.add_none e] at hi ⊢
          have : (S.ns ++ [((.inr z, cs) : FN)]).length = S.ns.length + 1 := by rw [List.length_append]; rfl
          have hi : i < (S.ns ++ [((.inr z, cs) : FN)]).length := hi
          show i = S.ns.length
          omega
        rw [ei, new, FS.add_none e]
        show (S.zs ++ [szN S.zs (.inr z, cs)]).getD S.ns.length 0 = _
        rw [List.getD_eq_getElem?_getD, List.getElem?_append_right (by rw [F.lz]; exact Nat.le_refl _), F.lz, Nat.sub_self]
        show 1 + (cs.map fun c => S.zs.getD c 0).sum = (catS S.ns cs).length + 1
        unfold catS
        rw [List.length_flatten, List.map_map, Nat.add_comm]
        congr 2
        exact List.map_congr_left fun c h => F.Z c (hc c h)
theorem lexB_app {w : Str → Nat} {r : Str → Nat} {a b x y : List Str} (ha : OneT w a) (hb : OneT w b) (n : a ≠ b) : lexB r (a ++ x) (b ++ y) = lexB r a b := by
  have n1 : ¬ a <+: b := fun ⟨t, h⟩ => by
    have : t = [] := OneT.pre ha (by rw [h]; exact hb)
    rw [this, List.append_nil] at h
    exact n h
  have n2 : ¬ b <+: a := fun ⟨t, h⟩ => by
    have : t = [] := OneT.pre hb (by rw [h]; exact ha)
    rw [this, List.append_nil] at h
    exact n h.symm
  clear ha hb n
  induction a generalizing b with
  | nil => exact absurd (List.nil_prefix) n1
  | cons p a ih =>
    cases b with
    | nil => exact absurd (List.nil_prefix) n2
    | cons q b =>
      show lexB r (p :: (a ++ x)) (q :: (b ++ y)) = _
      rw [lexB, lexB]
      by_cases e : p = q
      · subst e
        rw [if_pos rfl, if_pos rfl]
        exact ih (fun h => n1 (List.cons_prefix_cons.mpr ⟨rfl, h⟩)) (fun h => n2 (List.cons_prefix_cons.mpr ⟨rfl, h⟩))
      · rw [if_neg e, if_neg e]
theorem catS_split (ns : List FN) {cs : List Nat} {k c : Nat} (h : cs[k]? = some c) : catS ns cs = catS ns (cs.take k) ++ (trS ns c ++ catS ns (cs.drop (k + 1))) := by
  have hk := (List.getElem?_eq_some_iff.mp h)
  have : cs = cs.take k ++ c :: cs.drop (k + 1) := by
    rw [← hk.2, List.getElem_cons_drop, List.take_append_drop]
  conv => lhs; rw [this]
  unfold catS
  rw [List.map_append, List.flatten_append, List.map_cons, List.flatten_cons]
/-- the first place where two rows of nodes differ decides -/
theorem lexB_first (F : FoOk rows S) {r : Str → Nat} {z : Str} {cs ds : List Nat} {k c d : Nat} (hc : cs[k]? = some c) (hd : ds[k]? = some d) (e : cs.take k = ds.take k) (n : c ≠ d) (lc : c < S.ns.length) (ld : d < S.ns.length) : lexB r (z :: catS S.ns cs) (z :: catS S.ns ds) = lexB r (trS S.ns c) (trS S.ns d) := by
  rw [lexB, if_pos rfl, catS_split S.ns hc, catS_split S.ns hd, e, lexB_pre]
  exact lexB_app (F.one c lc).1 (F.one d ld).1 fun h => n (F.inj lc ld h)
end
end Sh
end
section
set_option Elab.async false
set_option linter.all false
set_option maxRecDepth 100000
set_option maxHeartbeats 16000000
namespace Sh
open PySem PySem.Spec PyProof.Rows L2
open C8 (pss_cut tCut)
open Evl (ixN_nat)
def kvs (l : List Key) : List V := l.map kV
theorem walk_zipT {K : PySem.W.Frag} {a b : Addr} {xs ys : List V} {n : Nat} (h1 : xs.length = n) (h2 : ys.length = n) : Walk (RZ.ItzT K a b) n (fun H => SqT K H a xs ∧ SqT K H b ys) (YPair (fun i => xs[i]?) (fun i => ys[i]?)) := by
  refine ⟨fun i _ hi q => ⟨xs, ys, xs[i], ys[i], q.1, q.2, by simp [show i < xs.length by omega], by simp [show i < ys.length by omega]⟩, fun _ q => ⟨xs, ys, q.1, q.2, by omega⟩, fun i H v H' _ q y => ?_⟩
  obtain ⟨T, x, z, e1, e2, e3, e4, e5⟩ := y
  exact ⟨T, x, z, e1, e2, e3, e4 xs q.1, e5 ys q.2⟩
theorem len_flat {rows : List Row} {ns : List FN} (W : WF ns) (A : ∀ n ∈ ns, n.2.length = wK rows n.1) : ∀ {st : List Nat}, (∀ y ∈ st, y < ns.length) → st.length ≤ ((st.map (tr ns)).flatten).length
  | [], _ => Nat.le_refl _
  | y :: st, h => by
    have := len_flat W A (st := st) fun z hz => h z (List.mem_cons_of_mem _ hz)
    have hy := tr_eq W (List.getElem?_eq_getElem (h y List.mem_cons_self))
    rw [List.map_cons, List.flatten_cons, List.length_append, List.length_cons, hy, List.length_cons]
    omega
def spEntries (P : Program) (w : World) (CF : Addr) : Sp := fun vs H Q _ => ∃ (f : Addr) (F : FA) (S : FS) (rows : List Row) (c : Nat), vs = [.ref f, .int (c : Nat)] ∧ ForS P w CF H f F S ∧ WF S.ns ∧ (∀ n ∈ S.ns, n.2.length = wK rows n.1) ∧ ROk 8 rows ∧ c < S.ns.length ∧ (tr S.ns c).length ≤ 6000 ∧ ∀ H' r, Same H H' → Tq H' r (kvs (tr S.ns c)) → Q (.ref r) H'
abbrev N_entries_of : List Str := ["forest", "node", "entries", "waiting", "place"]
theorem sc_entries_of : FnScope N_entries_of ["forest", "node"] (defScope s_entries_of) := ⟨rfl, rfl, rfl, by decide +kernel, rfl, by decide +kernel, by decide +kernel⟩
section
variable {P : Program} {w : World} {K : PySem.W.Frag} {mg : Str → Option Value} {base : Heap} {CF : Addr}
theorem ok_entries_of (T : Bl mg) (B : ForT K CF) (D : Def0 K mg "entries_of" s_entries_of) : DefOk P w K mg base CX0 1 "entries_of" (spEntries P w CF) := by
  refine D.ok sc_entries_of (fun vs H Q E h => ?_) (fun _ _ _ _ _ _ us hl => match us, hl with | [_, _], _ => rfl) (fun f0 cdv A' outer s' H vs Q E hr h => ?_)
  · obtain ⟨f, F, S, rows, c, rfl, _⟩ := h
    rfl
  · obtain ⟨f, F, S, rows, c, rfl, O, W, A, R, hc, hl6, k⟩ := h
    obtain ⟨dxf, ho⟩ := O.o
    obtain ⟨bs, hbs, hbl⟩ := O.b
    refine ⟨_, (pss_cons (ps_set (i := 2) sc_entries_of.nd rfl (Or.inl rfl) (pe_lst pa_nil))
      (pss_cons (ps_set (i := 3) sc_entries_of.nd rfl (Or.inl rfl) (pe_lst (pa_cons (pv 1) pa_nil)))
      (pss_cons (ps_while PassesOwn.never (pt_truth (pv 3) (by intro _; rfl))
        (pss_cons (ps_set (i := 4) sc_entries_of.nd rfl (Or.inl rfl) (pe_bm0 PySem.F.plainAttrs_list PySem.F.slot_list_pop PySem.F.type_list_pop mt_pop (pv 3)))
        (pss_cons (ps_expr (pe_bm PySem.F.plainAttrs_list PySem.F.slot_list_append PySem.F.type_list_append mt_append (pv 2) (pa_cons (pe_ix ix_list (pe_fld (pv 0) rfl) (pv 4) (fun _ _ => rfl)) pa_nil)))
        (pss_one (ps_expr (pe_bm PySem.F.plainAttrs_list PySem.F.slot_list_extend PySem.F.type_list_extend mt_extendT (pv 3) (pa_cons (pe_revT (pe_ix ix_list (pe_fld (pv 0) rfl) (pv 4) (fun _ _ => rfl))) pa_nil)))))))
      (pss_one (ps_ret (pe_callTy call_tuple_of (by rfl) T.b_tuple (by decide +kernel) (pa_cons (pv 2) pa_nil))))))), ?_⟩
    refine ⟨le_line (show 0 ≤ 10000000 by decide), fun e he => ?_⟩
    have s1 := (Same.refl H).upd_new (o := .lst []) he
    have e1 : (upd H e (.lst [])) e = some (.lst []) := upd_same
    generalize upd H e (.lst []) = H1 at s1 e1
    refine ⟨_, rfl, le_line (show 1 ≤ 10000000 by decide), fun u hu => ?_⟩
    have s2 := s1.upd_new (o := .lst [.int (c : Nat)]) hu
    have e2 : (upd H1 u (.lst [.int (c : Nat)])) e = some (.lst []) := by rw [upd_ne (ne_of_none e1 hu)]; exact e1
    have u2 : (upd H1 u (.lst [.int (c : Nat)])) u = some (.lst (nI ([c] : List Nat).reverse)) := upd_same
    have neu : e ≠ u := ne_of_none e1 hu
    have nu : H u = none := s1.free hu
    generalize upd H1 u (.lst [.int (c : Nat)]) = H2 at s2 e2 u2
    refine ⟨fun m σ H' => ∃ (x4 : Option V) (st : List Nat) (done : List Key), σ = [some (.ref f), some (.int (c : Nat)), some (.ref e), some (.ref u), x4] ∧ Same H H' ∧ H' e = some (.lst (kvs done)) ∧ H' u = some (.lst (nI st.reverse)) ∧ (∀ y ∈ st, y < S.ns.length) ∧ done ++ (st.map (tr S.ns)).flatten = tr S.ns c ∧ ((st.map (tr S.ns)).flatten).length = m ,
      ⟨_, none, [c], [], rfl, s2, e2, u2, fun y hy => by rw [List.mem_singleton.mp hy]; exact hc, by show [] ++ (tr S.ns c ++ []) = _; rw [List.append_nil]; rfl, rfl⟩, ?_⟩
    rintro m σ H3 ⟨x4, st, done, rfl, s3, e3, u3, lt3, d3, m3⟩
    have ld := congrArg List.length d3
    rw [List.length_append] at ld
    cases st with
    | nil =>
      have ee : done = tr S.ns c := by rw [← d3]; show done = done ++ []; rw [List.append_nil]
      refine ⟨_, rfl, false, .inl ⟨_, SqL.of u3, rfl⟩, ?_⟩
      refine ifn (by decide) ?_
      refine ⟨_, rfl, e, _, rfl, .inl ⟨SqL.of e3, fun q hq => ?_⟩⟩
      refine k _ q (s3.upd_new hq) ?_
      rw [ee]
      exact .of upd_same
    | cons y st =>
      have ly := lt3 y List.mem_cons_self
      have gy := List.getElem?_eq_getElem ly
      have ety := tr_eq W gy
      have eu : nI (y :: st).reverse = nI st.reverse ++ [V.int ((y : Nat) : Int)] := by
        unfold nI
        rw [List.reverse_cons, List.map_append]
        rfl
      rw [eu] at u3
      refine ⟨_, rfl, true, .inl ⟨_, SqL.of u3, by simp⟩, ?_⟩
      refine ifp rfl ⟨fun σ H' => ∃ m', m' < m ∧ ∃ (x4 : Option V) (st : List Nat) (done : List Key), σ = [some (.ref f), some (.int (c : Nat)), some (.ref e), some (.ref u), x4] ∧ Same H H' ∧ H' e = some (.lst (kvs done)) ∧ H' u = some (.lst (nI st.reverse)) ∧ (∀ y ∈ st, y < S.ns.length) ∧ done ++ (st.map (tr S.ns)).flatten = tr S.ns c ∧ ((st.map (tr S.ns)).flatten).length = m' , fun σ' H' h => h, ?_⟩
      refine ⟨_, rfl, .inl ⟨rfl, _, SqL.of u3⟩, u, _, V.int ((y : Nat) : Int), rfl, rfl, u3, ?_, ?_⟩
      · rw [List.length_append, show ([V.int ((y : Nat) : Int)] : List V).length = 1 from rfl, Nat.add_sub_cancel, List.getElem?_append_right (Nat.le_refl _), Nat.sub_self]
        rfl
      rw [List.dropLast_concat]
      have s4 := s3.upd_own (o := .lst (nI st.reverse)) nu
      have u4 : (upd H3 u (.lst (nI st.reverse))) u = some (.lst (nI st.reverse)) := upd_same
      have e4 : (upd H3 u (.lst (nI st.reverse))) e = some (.lst (kvs done)) := by rw [upd_ne neu]; exact e3
      generalize upd H3 u (.lst (nI st.reverse)) = H4 at s4 u4 e4
      have hky : (S.ns.map fun n => kV n.1)[y]? = some (kV (S.ns[y]).1) := by rw [List.getElem?_map, gy]; rfl
      have hyb : y < bs.length := by rw [hbl.1]; exact ly
      have hbt := hbl.2 y bs[y] S.ns[y] (List.getElem?_eq_getElem hyb) gy
      have Wy := W y _ gy
      have Ay := A _ (List.getElem_mem ly)
      generalize S.ns[y] = n at hky hbt Wy Ay ety
      have lk : (kvs done).length < sizeLine := by
        unfold kvs
        rw [List.length_map]
        exact lt_line (by omega)
      refine ⟨_, rfl, .inl ⟨rfl, _, SqL.of e4⟩, _, rfl, f, CF, dxf, _, _, rfl, s4 _ _ ho, B.cl, B.nL, lk_lab F, _, rfl, F.l, _, _, _, rfl, rfl, SqL.of (s4 _ _ O.l), at_ofG (j := y) rfl hky, e, _, _, rfl, rfl, e4, lk, ?_⟩
      have s5 := s4.upd_own (o := .lst (kvs done ++ [kV n.1])) he
      have e5 : (upd H4 e (.lst (kvs done ++ [kV n.1]))) e = some (.lst (kvs (done ++ [n.1]))) := by
        rw [upd_same]
        unfold kvs
        rw [List.map_append]
        rfl
      have u5 : (upd H4 e (.lst (kvs done ++ [kV n.1]))) u = some (.lst (nI st.reverse)) := by rw [upd_ne (Ne.symm neu)]; exact u4
      generalize upd H4 e (.lst (kvs done ++ [kV n.1])) = H5 at s5 e5 u5
      refine ⟨_, rfl, .inl ⟨rfl, _, SqL.of u5⟩, _, rfl, f, CF, dxf, _, _, rfl, s5 _ _ ho, B.cl, B.nB, lk_bel F, _, rfl, F.b, _, _, _, rfl, rfl, SqL.of (s5 _ _ hbs), at_ofG (j := y) rfl (by rw [List.getElem?_map, List.getElem?_eq_getElem hyb]; rfl), bs[y], _, rfl, SqT.of (s5 _ _ hbt), fun p hp => ?_⟩
      have s6 := s5.upd_new (o := .tup (nI n.2).reverse) hp
      have p6 : (upd H5 p (.tup (nI n.2).reverse)) p = some (.tup (nI n.2).reverse) := upd_same
      have u6 : (upd H5 p (.tup (nI n.2).reverse)) u = some (.lst (nI st.reverse)) := by rw [upd_ne (ne_of_none u5 hp)]; exact u5
      have e6 : (upd H5 p (.tup (nI n.2).reverse)) e = some (.lst (kvs (done ++ [n.1]))) := by rw [upd_ne (ne_of_none e5 hp)]; exact e5
      generalize upd H5 p (.tup (nI n.2).reverse) = H6 at s6 p6 u6 e6
      have ltn : ∀ z ∈ n.2 ++ st, z < S.ns.length := fun z hz => by
        rcases List.mem_append.mp hz with q | q
        · exact Nat.lt_trans (Wy z q) ly
        · exact lt3 z (List.mem_cons_of_mem _ q)
      have fl : ((y :: st).map (tr S.ns)).flatten = n.1 :: (((n.2 ++ st).map (tr S.ns)).flatten) := by
        rw [List.map_cons, List.flatten_cons, ety, List.map_append, List.flatten_append]
        rfl
      have lf := congrArg List.length fl
      rw [List.length_cons] at lf
      have ln := len_flat W A ltn
      rw [List.length_append] at ln
      refine ⟨u, p, _, _, rfl, rfl, u6, SqT.of p6, ?_, ?_⟩
      · unfold nI
        rw [List.length_reverse, List.length_map, List.length_map, List.length_reverse]
        exact le_line (by omega)
      refine ⟨_, by omega, _, n.2 ++ st, done ++ [n.1], rfl, s6.upd_own nu, by rw [upd_ne neu]; exact e6, ?_, ltn, ?_, rfl⟩
      · rw [upd_same]
        unfold nI
        rw [List.reverse_append, List.map_append, List.map_reverse, List.map_reverse]
      · rw [← d3, fl, List.append_assoc]
        rfl
end
def chF (c rd rk f : Addr) : List (Str × V) := [("prices", .ref c), ("reader", .ref rd), ("ranks", .ref rk), ("forest", .ref f)]
structure ChT (K : PySem.W.Frag) (C : Addr) : Prop where
  cl : Cls K C
  nP : NoAttr K C "prices"
  nR : NoAttr K C "reader"
  nK : NoAttr K C "ranks"
  nF : NoAttr K C "forest"
theorem c_ne : ¬ ("prices" : Str) = "reader" ∧ ¬ ("prices" : Str) = "ranks" ∧ ¬ ("prices" : Str) = "forest" ∧ ¬ ("reader" : Str) = "ranks" ∧ ¬ ("reader" : Str) = "forest" ∧ ¬ ("ranks" : Str) = "forest" := by decide +kernel
theorem ch_prices (c rd rk f : Addr) : (chF c rd rk f).lookup ("prices" : Str) = some (.ref c) := by simp [chF, List.lookup]
theorem ch_reader (c rd rk f : Addr) : (chF c rd rk f).lookup ("reader" : Str) = some (.ref rd) := by
  have h1 : (("reader" : Str) == "prices") = false := by decide +kernel
  simp [chF, List.lookup, h1]
theorem ch_ranks (c rd rk f : Addr) : (chF c rd rk f).lookup ("ranks" : Str) = some (.ref rk) := by
  have h1 : (("ranks" : Str) == "prices") = false := by decide +kernel
  have h2 : (("ranks" : Str) == "reader") = false := by decide +kernel
  simp [chF, List.lookup, h1, h2]
theorem ch_forest (c rd rk f : Addr) : (chF c rd rk f).lookup ("forest" : Str) = some (.ref f) := by
  have h1 : (("forest" : Str) == "prices") = false := by decide +kernel
  have h2 : (("forest" : Str) == "reader") = false := by decide +kernel
  have h3 : (("forest" : Str) == "ranks") = false := by decide +kernel
  simp [chF, List.lookup, h1, h2, h3]
theorem _root_.L2.Rd.sm {H H' : Hp} {a : Addr} {u : HO} (h : Rd H a u) (s : Same H H') : Rd H' a u := by
  rcases h with h | ⟨o, h⟩
  · exact .inl (s _ _ h)
  · exact .inr ⟨o, s _ _ h⟩
theorem rk_getR {rows : List Row} {m : Int} (R : ROk m rows) {H : Hp} {a : Addr} (h : Rd H a (.dK (rkL (rows.map (·.1))))) {z : Str} (hz : HasN rows z) : DGet H a (.str z) (some (.int ((rkS rows z : Nat) : Int))) := by
  obtain ⟨q, hq, rfl⟩ := hz
  have l1 : (rows.map (·.1)).idxOf q.1 < (rows.map (·.1)).length := List.idxOf_lt_length_of_mem (List.mem_map.mpr ⟨q, hq, rfl⟩)
  have e1 := List.getElem_idxOf l1
  have v := valV_rk R.nd l1
  rw [e1] at v
  refine .inl ⟨_, .inr q.1, h, rfl, ?_⟩
  rw [v]
  rfl
structure ChK (P : Program) (w : World) (CC CF : Addr) (H : Hp) (p c rd rk f : Addr) (rows : List Row) (F : FA) (S : FS) : Prop where
  o : ∃ dx, H p = some (.ins CC dx (chF c rd rk f))
  k : Rd H rk (.dK (rkL (rows.map (·.1))))
  f : ForS P w CF H f F S
  ok : FoOk rows S
theorem ChK.same {P : Program} {w : World} {CC CF : Addr} {H H' : Hp} {p c rd rk f : Addr} {rows : List Row} {F : FA} {S : FS} (x : ChK P w CC CF H p c rd rk f rows F S) (s : Same H H') : ChK P w CC CF H' p c rd rk f rows F S := by
  obtain ⟨⟨dx, h⟩, h2, h3, h4⟩ := x
  exact ⟨⟨dx, s _ _ h⟩, h2.sm s, h3.same s, h4⟩
def pnV (p : Nat × Nat) : List V := [.int ((p.1 : Nat) : Int), .int ((p.2 : Nat) : Int)]
def dfs (cs ds : List Nat) : List (Nat × Nat) := (cs.zip ds).filter fun p => decide (p.1 ≠ p.2)
theorem dfs_nil : ∀ {cs ds : List Nat}, cs.length = ds.length → dfs cs ds = [] → cs = ds
  | [], [], _, _ => rfl
  | [], _ :: _, h, _ => by cases h
  | _ :: _, [], h, _ => by cases h
  | c :: cs, d :: ds, h, e => by
    unfold dfs at e
    rw [List.zip_cons_cons] at e
    by_cases n : c = d
    · subst n
      rw [List.filter_cons_of_neg (by simp)] at e
      rw [dfs_nil (by simpa using h) e]
    · rw [List.filter_cons_of_pos (by simp [n])] at e
      cases e
theorem dfs_cons : ∀ {cs ds : List Nat} {p : Nat × Nat} {r : List (Nat × Nat)}, dfs cs ds = p :: r → ∃ k, cs[k]? = some p.1 ∧ ds[k]? = some p.2 ∧ p.1 ≠ p.2 ∧ cs.take k = ds.take k
  | [], _, _, _, e => by cases e
  | _ :: _, [], _, _, e => by cases e
  | c :: cs, d :: ds, p, r, e => by
    unfold dfs at e
    rw [List.zip_cons_cons] at e
    by_cases n : c = d
    · subst n
      rw [List.filter_cons_of_neg (by simp)] at e
      obtain ⟨k, h1, h2, h3, h4⟩ := dfs_cons e
      exact ⟨k + 1, h1, h2, h3, by rw [List.take_succ_cons, List.take_succ_cons, h4]⟩
    · rw [List.filter_cons_of_pos (by simp [n])] at e
      injection e with e _
      subst e
      exact ⟨0, rfl, rfl, n, rfl⟩
def spBefore52 (P : Program) (w : World) (CC CF : Addr) : Sp := fun vs H Q _ => ∃ (s p q a b c rd rk f : Addr) (rows : List Row) (F : FA) (S : FS) (z z' : Str) (cs ds : List Nat), vs = [.ref s, .ref p, .ref q] ∧ ChK P w CC CF H s c rd rk f rows F S ∧ ROk 4 rows ∧ H p = some (.tup [.str z, .ref a]) ∧ H a = some (.tup (nI cs)) ∧ H q = some (.tup [.str z', .ref b]) ∧ H b = some (.tup (nI ds)) ∧ HasN rows z ∧ HasN rows z' ∧ cs.length = wR rows z ∧ ds.length = wR rows z' ∧ (∀ x ∈ cs, x < S.ns.length) ∧ (∀ x ∈ ds, x < S.ns.length) ∧ ∀ H', Same H H' → Q (.bl (lexB (rkS rows) (z :: catS S.ns cs) (z' :: catS S.ns ds))) H'
abbrev N_Changer_is_before : List Str := ["self", "first", "second", "forest", "pairs", "one", "other", "node"]
theorem sc_Changer_is_before : FnScope N_Changer_is_before ["self", "first", "second"] (defScope s_Changer_is_before) := ⟨rfl, rfl, rfl, by decide +kernel, rfl, by decide +kernel, by decide +kernel⟩
section
variable {P : Program} {w : World} {K : PySem.W.Frag} {mg : Str → Option Value} {base : Heap} {CC CF : Addr}
theorem body_before (T : Bk mg) (B : ChT K CC) (BF : ForT K CF) {f0 : Addr} {cdv : Value} {A' : Around} {outer : List Env} {s' : Shared} {H : Hp} {vs : List V} {Q : VK} {E : XK} (hr : Room 1 (A'.deeper (envOfC "Changer.is_before" (defScope s_Changer_is_before) s'.heap.objs.size f0 cdv))) (h : spBefore52 P w CC CF vs H Q E) :
    ∃ t, PSs (cxOf CX0 P w K mg base N_Changer_is_before "Changer.is_before" (defScope s_Changer_is_before) f0 cdv A' outer s' H E).nox (defBody s_Changer_is_before) t ∧ t { nx := fun _ H' => Q .non H', rt := Q } (start N_Changer_is_before vs) H := by
  obtain ⟨s, p, q, a, b, c, rd, rk, f, rows, F, S, z, z', cs, ds, rfl, hC, R, hp, ha, hq, hb, hz, hz', lcs, lds, cc, cd, k⟩ := h
  have hu := hu_of hr
  obtain ⟨⟨dx, ho⟩, hrk, hF, Fo⟩ := hC
  obtain ⟨dxf, hof⟩ := hF.o
  obtain ⟨bs, hbs, hbl⟩ := hF.b
  refine ⟨_, (pss_cons (ps_set (i := 3) sc_Changer_is_before.nd rfl (Or.inr rfl) (pe_fld (pv 0) rfl))
    (pss_cons (ps_while PassesOwn.never (pt_cmpR op_eq (pe_ix ix_tup (pv 1) pe_int (fun _ _ => rfl)) (pe_ix ix_tup (pv 2) pe_int (fun _ _ => rfl)) (nomark _))
      (pss_cons (ps_setLc (i := 4) (own := [("one", 5), ("other", 6)]) (g := (gTup K 2 (gCons (gName 5) (gCons (gName 6) gNil)))) rfl sc_Changer_is_before.nd rfl rfl (sw_true rfl rfl rfl (by decide +kernel)) (RZ.pi_zipA (by rfl) T.b_zip (pa_cons (pe_ix ix_tup (pv 1) pe_int (fun _ _ => rfl)) (pa_cons (pe_ix ix_tup (pv 2) pe_int (fun _ _ => rfl)) pa_nil))) (blkOk_by (N := N_Changer_is_before) (sc := defScope s_Changer_is_before) (by decide +kernel)) (fun _ _ _ _ _ => (pg_tup (by rfl) (pgs_cons (pg_name (i := 5) sc_Changer_is_before.nd rfl (Or.inl rfl)) (pgs_cons (pg_name (i := 6) sc_Changer_is_before.nd rfl (Or.inl rfl)) pgs_nil)))) (fun _ _ _ _ _ => (pts_one (pt_cmpR op_ne (pv 5) (pv 6) (nomark _)))) (fun _ _ _ _ _ => (pe_tup (pa_cons (pv 5) (pa_cons (pv 6) pa_nil)))))
      (pss_cons (ps_if (pt_cmpR op_eq (pe_callB call_len_seq (by rfl) T.b_len boot_len (pa_cons (pv 4) pa_nil)) pe_int (nomark _))
        (pss_one (ps_ret pe_bl))
        pss_nil)
      (pss_one (ps_asg (pe_lc (own := [("node", 7)]) (g := (gName 7)) (tt := tYes) rfl sc_Changer_is_before.nd (pi_tup (pe_ix ix_list (pv 4) pe_int (fun _ _ => rfl))) (blkOk_by (N := N_Changer_is_before) (sc := defScope s_Changer_is_before) (by decide +kernel)) (fun _ _ _ _ _ => (pg_name (i := 7) sc_Changer_is_before.nd rfl (Or.inl rfl))) (fun _ _ _ _ _ => pts_nil) (fun _ _ _ _ _ => (pe_tup (pa_cons (pe_ix (show IxR _ (rIxL K) from ix_list) (show PE _ _ (tFld K _ _) from pe_fld (pv 3) rfl) (pv 7) (fun _ _ => rfl)) (pa_cons (pe_ix (show IxR _ (rIxL K) from ix_list) (show PE _ _ (tFld K _ _) from pe_fld (pv 3) rfl) (pv 7) (fun _ _ => rfl)) pa_nil))))) (pg_lst (by rfl) (pgs_cons (pg_name (i := 1) sc_Changer_is_before.nd rfl (Or.inl rfl)) (pgs_cons (pg_name (i := 2) sc_Changer_is_before.nd rfl (Or.inl rfl)) pgs_nil))))))))
    (pss_one (ps_ret (pe_cmpR op_lt (pe_dget hu (pe_fld (pv 0) rfl) (pe_ix ix_tup (pv 1) pe_int (fun _ _ => rfl)) (fun _ _ => rfl)) (pe_dget hu (pe_fld (pv 0) rfl) (pe_ix ix_tup (pv 2) pe_int (fun _ _ => rfl)) (fun _ _ => rfl)) (nomark _)))))), ?_⟩
  refine ⟨_, rfl, s, CC, dx, _, _, rfl, ho, B.cl, B.nF, ch_forest _ _ _ _, ?_⟩
  generalize hans : lexB (rkS rows) (z :: catS S.ns cs) (z' :: catS S.ns ds) = ans at k
  refine ⟨fun m σ H' => ∃ (x4 x5 x6 x7 : Option V) (p q a b : Addr) (z z' : Str) (es fs : List Nat), σ = [some (.ref s), some (.ref p), some (.ref q), some (.ref f), x4, x5, x6, x7] ∧ Same H H' ∧ H' p = some (.tup [.str z, .ref a]) ∧ H' a = some (.tup (nI es)) ∧ H' q = some (.tup [.str z', .ref b]) ∧ H' b = some (.tup (nI fs)) ∧ HasN rows z ∧ HasN rows z' ∧ es.length = wR rows z ∧ fs.length = wR rows z' ∧ (∀ x ∈ es, x < S.ns.length) ∧ (∀ x ∈ fs, x < S.ns.length) ∧ lexB (rkS rows) (z :: catS S.ns es) (z' :: catS S.ns fs) = ans ∧ (catS S.ns es).length = m,
    ⟨_, none, none, none, none, p, q, a, b, z, z', cs, ds, rfl, Same.refl H, hp, ha, hq, hb, hz, hz', lcs, lds, cc, cd, hans, rfl⟩, ?_⟩
  rintro m σ H2 ⟨x4, x5, x6, x7, p, q, a, b, z, z', es, fs, rfl, s2, hp, ha, hq, hb, hz, hz', les, lfs, ce, cf, hans, hm⟩
  refine ⟨_, rfl, p, _, _, _, rfl, rfl, SqT.of hp, atI_nat (j := 0) rfl, _, rfl, q, _, _, _, rfl, rfl, SqT.of hq, atI_nat (j := 0) rfl, rfl, _, rfl, ?_⟩
  by_cases ez : z = z'
  · subst ez
    refine ifp (by simp) ⟨fun σ H' => ∃ m', m' < m ∧ ∃ (x4 x5 x6 x7 : Option V) (p q a b : Addr) (z z' : Str) (es fs : List Nat), σ = [some (.ref s), some (.ref p), some (.ref q), some (.ref f), x4, x5, x6, x7] ∧ Same H H' ∧ H' p = some (.tup [.str z, .ref a]) ∧ H' a = some (.tup (nI es)) ∧ H' q = some (.tup [.str z', .ref b]) ∧ H' b = some (.tup (nI fs)) ∧ HasN rows z ∧ HasN rows z' ∧ es.length = wR rows z ∧ fs.length = wR rows z' ∧ (∀ x ∈ es, x < S.ns.length) ∧ (∀ x ∈ fs, x < S.ns.length) ∧ lexB (rkS rows) (z :: catS S.ns es) (z' :: catS S.ns fs) = ans ∧ (catS S.ns es).length = m', fun σ' H' h => h, ?_⟩
    have lef : es.length = fs.length := by rw [les, lfs]
    have w3 := wR_le R z
    refine ⟨_, rfl, p, _, _, _, rfl, rfl, SqT.of hp, atI_nat (j := 1) rfl, _, rfl, q, _, _, _, rfl, rfl, SqT.of hq, atI_nat (j := 1) rfl, a, b, _, _, rfl, .inr ⟨SqT.of ha, SqT.of hb, fun D hD => lc_it (walk_zipT (xs := nI es) (ys := nI fs) (n := es.length) (nI_len _) (by rw [nI_len]; exact lef.symm)) (fun j H' => Same H2 H' ∧ ∃ us : List Addr, H' D = some (.lst (us.map V.ref)) ∧ PlAt pnV H' us (dfs (es.take j) (fs.take j))) ⟨(Same.refl H2).upd_new hD, [], upd_same, .nil⟩ (fun j H' _ ⟨q, _⟩ => ⟨SqT.of (q _ _ ha), SqT.of (q _ _ hb)⟩) ?_ ?_⟩⟩
    · rintro j v H3 H3' hj ⟨s3, us, D3, U3⟩ ⟨P1, v1, v2, rfl, hP1, rfl, e1, e2⟩
      have hj1 : j < es.length := hj
      have hj2 : j < fs.length := by omega
      have g1 := List.getElem?_eq_getElem hj1
      have g2 := List.getElem?_eq_getElem hj2
      have e1' : (nI es)[j]? = some v1 := e1
      have e2' : (nI fs)[j]? = some v2 := e2
      rw [nI_at g1] at e1'
      rw [nI_at g2] at e2'
      cases e1'
      cases e2'
      have ed : dfs (es.take (j + 1)) (fs.take (j + 1)) = dfs (es.take j) (fs.take j) ++ if es[j] ≠ fs[j] then [(es[j], fs[j])] else [] := by
        unfold dfs
        rw [List.take_add_one, List.take_add_one, g1, g2, List.zip_append (by rw [List.length_take, List.length_take]; omega), List.filter_append]
        congr 1
        show List.filter _ [(es[j], fs[j])] = _
        by_cases c : es[j] = fs[j]
        · rw [if_neg (fun h => h c), List.filter_cons_of_neg (by simp [c])]
          rfl
        · rw [if_pos c, List.filter_cons_of_pos (by simp [c])]
          rfl
      generalize es[j] = c1 at hP1 ed
      generalize fs[j] = c2 at hP1 ed
      have s34 := (Same.refl H3).upd_new (o := .tup [.int ((c1 : Nat) : Int), .int ((c2 : Nat) : Int)]) hP1
      have f4 : (upd H3 P1 (.tup [.int ((c1 : Nat) : Int), .int ((c2 : Nat) : Int)])) P1 = some (.tup [.int ((c1 : Nat) : Int), .int ((c2 : Nat) : Int)]) := upd_same
      generalize upd H3 P1 (.tup [.int ((c1 : Nat) : Int), .int ((c2 : Nat) : Int)]) = H4 at s34 f4
      have lus : us.length ≤ 3 := by
        rw [U3.1]
        refine Nat.le_trans (List.length_filter_le _ _) ?_
        rw [List.length_zip, List.length_take]
        omega
      refine ⟨P1, _, rfl, SqT.of f4, rfl, _, _, rfl, _, _, rfl, rfl, rfl, ?_⟩
      refine ⟨_, rfl, _, rfl, rfl, _, rfl, ite2 (fun c => ?_) (fun c => ?_)⟩
      · rw [vne] at c
        have c := of_decide_eq_true c
        rw [if_pos c] at ed
        refine ⟨_, rfl, _, rfl, le_line (show 2 ≤ 10000000 by decide), fun t ht => ?_⟩
        have D4 := s34 _ _ D3
        refine ⟨_, by rw [upd_ne (ne_of_none D4 ht)]; exact D4, by rw [List.length_map]; exact lt_line (by omega), ((s3.trans s34).upd_new ht).upd_own hD, us ++ [t], by rw [upd_same, List.map_append]; rfl, ?_⟩
        rw [ed]
        exact (U3.keep fun t ys h => s34 _ _ h).two (q := (c1, c2)) ht D4
      · rw [vne] at c
        have c : c1 = c2 := by
          by_cases h : c1 = c2
          · exact h
          · exact absurd (decide_eq_true h) c
        rw [if_neg (fun h => h c), List.append_nil] at ed
        refine ⟨s3.trans s34, us, s34 _ _ D3, ?_⟩
        rw [ed]
        exact U3.keep fun t ys h => s34 _ _ h
    rintro H3 ⟨s3, us, D3, U3⟩
    rw [List.take_length, lef, List.take_length] at U3
    have s03 := s2.trans s3
    refine ⟨_, rfl, D, _, rfl, .inl (SqL.of D3), rfl, _, rfl, ite2 (fun c => ?_) (fun c => ?_)⟩
    · have e0 : dfs es fs = [] := by
        rw [veq, List.length_map, U3.1] at c
        have := of_decide_eq_true c
        exact List.eq_nil_of_length_eq_zero (by omega)
      have ef := dfs_nil lef e0
      rw [ef, lexB_irr] at hans
      rw [← hans] at k
      exact k _ s03
    · have ne : dfs es fs ≠ [] := fun e => by
        rw [veq, List.length_map, U3.1, e] at c
        exact c rfl
      obtain ⟨pr, rr, epr⟩ := List.exists_cons_of_ne_nil ne
      obtain ⟨kk, k1, k2, k3, k4⟩ := dfs_cons epr
      obtain ⟨c1, c2⟩ := pr
      have l1 := ce c1 (List.mem_of_getElem? k1)
      have l2 := cf c2 (List.mem_of_getElem? k2)
      have hlx := lexB_first Fo (r := rkS rows) (z := z) k1 k2 k4 k3 l1 l2
      obtain ⟨y1, g1, n1, hy1, hg1, hc1, t1, _⟩ := Fo.at l1
      obtain ⟨y2, g2, n2, hy2, hg2, hc2, t2, _⟩ := Fo.at l2
      rw [hlx, t1, t2] at hans
      have hu0 : ∃ u, us[0]? = some u := by
        have : 0 < us.length := by rw [U3.1, epr]; exact Nat.succ_pos _
        exact ⟨_, List.getElem?_eq_getElem this⟩
      obtain ⟨u, hu0⟩ := hu0
      have hu3 := U3.2 0 u (c1, c2) hu0 (by rw [epr]; rfl)
      have hu3 : H3 u = some (.tup [.int ((c1 : Nat) : Int), .int ((c2 : Nat) : Int)]) := hu3
      have hrow : ∀ (c : Nat), c < S.ns.length → ∃ z cs b, S.ns[c]? = some (.inr z, cs) ∧ (S.ns.map fun n => kV n.1)[c]? = some (.str z) ∧ (bs.map V.ref)[c]? = some (.ref b) ∧ H b = some (.tup (nI cs)) := fun c hc => by
        obtain ⟨z, cs, h1, _⟩ := Fo.at hc
        have hb := List.getElem?_eq_getElem (show c < bs.length by rw [hbl.1]; exact hc)
        exact ⟨z, cs, bs[c]'(by rw [hbl.1]; exact hc), h1, by rw [List.getElem?_map, h1]; rfl, by rw [List.getElem?_map, hb]; rfl, hbl.2 c _ _ hb h1⟩
      refine ⟨_, rfl, D, _, _, _, rfl, rfl, SqL.of D3, at_ofG (j := 0) rfl (by rw [List.getElem?_map, hu0]; rfl), u, rfl, ⟨_, SqT.of hu3⟩, fun L hL => lc_it (walk_tup (xs := nI [c1, c2])) (fun j H' => Same H3 H' ∧ ∃ ts : List Addr, H' L = some (.lst (ts.map V.ref)) ∧ ts.length = j ∧ ∀ (i : Nat) (t : Addr) (c : Nat), ts[i]? = some t → [c1, c2][i]? = some c → ∃ z cs b, S.ns[c]? = some (.inr z, cs) ∧ H' t = some (.tup [.str z, .ref b]) ∧ H' b = some (.tup (nI cs))) ⟨(Same.refl H3).upd_new hL, [], upd_same, rfl, fun i t c h => by simp at h⟩ (fun j H' _ ⟨q, _⟩ => SqT.of (q _ _ hu3)) ?_ ?_⟩
      · rintro j v H4 H5 hj ⟨s4, ts, L4, lt4, V4⟩ ⟨rfl, hv⟩
        have hj2 : j < 2 := hj
        have hc := List.getElem?_eq_getElem (show j < [c1, c2].length from hj2)
        have lc : [c1, c2][j] < S.ns.length := by
          match j, hj2 with
          | 0, _ => exact l1
          | 1, _ => exact l2
        have hv' : (nI [c1, c2])[j]? = some v := hv
        rw [nI_at hc] at hv'
        cases hv'
        generalize [c1, c2][j]'hj2 = c at hc lc
        obtain ⟨z0, cs0, b0, r1, r2, r3, r4⟩ := hrow c lc
        have s04 := s03.trans s4
        refine ⟨rfl, _, rfl, f, CF, dxf, _, _, rfl, s04 _ _ hof, BF.cl, BF.nL, lk_lab F, _, rfl, F.l, _, _, _, rfl, rfl, SqL.of (s04 _ _ hF.l), at_ofG (j := c) rfl r2, _, rfl, f, CF, dxf, _, _, rfl, s04 _ _ hof, BF.cl, BF.nB, lk_bel F, _, rfl, F.b, _, _, _, rfl, rfl, SqL.of (s04 _ _ hbs), at_ofG (j := c) rfl r3, le_line (show 2 ≤ 10000000 by decide), fun t ht => ?_⟩
        refine ⟨_, by rw [upd_ne (ne_of_none L4 ht)]; exact L4, by rw [List.length_map, lt4]; exact lt_line (by omega), (s4.upd_new ht).upd_own hL, ts ++ [t], by rw [upd_same, List.map_append]; rfl, by rw [List.length_append, lt4]; rfl, fun i t' c' h1 h2 => ?_⟩
        have kt : ∀ t0 ys, H5 t0 = some (.tup ys) → (upd (upd H5 t (.tup [.str z0, .ref b0])) L (.lst (ts.map V.ref ++ [V.ref t]))) t0 = some (.tup ys) := fun t0 ys h => by rw [upd_ne (ne_of h L4 (fun e => nomatch e)), upd_ne (ne_of_none h ht)]; exact h
        by_cases ci : i < ts.length
        · rw [List.getElem?_append_left ci] at h1
          obtain ⟨z1, cs1, b1, q1, q2, q3⟩ := V4 i t' c' h1 h2
          exact ⟨z1, cs1, b1, q1, kt _ _ q2, kt _ _ q3⟩
        · have hl := (List.getElem?_eq_some_iff.mp h1).1
          rw [List.length_append] at hl
          have : ([t] : List Addr).length = 1 := rfl
          have ei : i = ts.length := by omega
          subst ei
          rw [List.getElem?_append_right (Nat.le_refl _), Nat.sub_self] at h1
          cases h1
          rw [lt4, hc] at h2
          cases h2
          have ntL : t ≠ L := fun e => by rw [e, L4] at ht; cases ht
          exact ⟨z0, cs0, b0, r1, by rw [upd_ne ntL, upd_same], kt _ _ (s04 _ _ r4)⟩
      · rintro H4 ⟨s4, ts, L4, lt4, V4⟩
        have lt4 : ts.length = 2 := lt4
        match ts, lt4, L4, V4 with
        | [ta, tb], _, L4, V4 =>
        obtain ⟨za, ca, ba, a1, a2, a3⟩ := V4 0 ta c1 rfl rfl
        obtain ⟨zb, cb, bb, b1, b2, b3⟩ := V4 1 tb c2 rfl rfl
        rw [n1] at a1
        rw [n2] at b1
        cases a1
        cases b1
        refine ⟨L, _, rfl, SqL.of L4, rfl, _, _, rfl, _, _, rfl, rfl, ?_⟩
        refine ⟨(catS S.ns g1).length, ?_, _, _, _, _, ta, tb, ba, bb, y1, y2, g1, g2, rfl, s03.trans s4, a2, a3, b2, b3, hy1, hy2, hg1, hg2, fun x hx => Nat.lt_trans (hc1 x hx) l1, fun x hx => Nat.lt_trans (hc2 x hx) l2, hans, rfl⟩
        rw [← hm, catS_split S.ns k1, t1]
        simp only [List.length_append, List.length_cons]
        omega
  · refine ifn (by simp [ez]) ?_
    refine ⟨_, rfl, s, CC, dx, _, _, rfl, s2 _ _ ho, B.cl, B.nK, ch_ranks _ _ _ _, _, rfl, p, _, _, _, rfl, rfl, SqT.of hp, atI_nat (j := 0) rfl, rk, _, rfl, rk_getR R (hrk.sm s2) hz, _, rfl, s, CC, dx, _, _, rfl, s2 _ _ ho, B.cl, B.nK, ch_ranks _ _ _ _, _, rfl, q, _, _, _, rfl, rfl, SqT.of hq, atI_nat (j := 0) rfl, rk, _, rfl, rk_getR R (hrk.sm s2) hz', _, _, rfl, rfl, ?_⟩
    rw [lexB, if_neg ez, show decide (rkS rows z < rkS rows z') = decide (((rkS rows z : Nat) : Int) < ((rkS rows z' : Nat) : Int)) from decide_eq_decide.mpr ⟨fun h => by omega, fun h => by omega⟩] at hans
    rw [← hans] at k
    exact k _ s2
end
end Sh
end
section
set_option Elab.async false
set_option linter.all false
set_option maxRecDepth 100000
set_option maxHeartbeats 16000000
namespace Sh
open PySem PySem.Spec PyProof.Rows L2
open C8 (pss_cut tCut)
open Evl (ixN_nat)
def pBb (r : Str → Nat) (a b : Cp) : Bool := decide (a.1 < b.1) || (decide (a.1 = b.1) && (decide (a.2.length < b.2.length) || (decide (a.2.length = b.2.length) && lexB r a.2 b.2)))
theorem pBb_iff {r : Str → Nat} {a b : Cp} : pBb r a b = true ↔ pB r a b := by
  unfold pBb pB
  simp only [Bool.or_eq_true, Bool.and_eq_true, decide_eq_true_eq]
def VBs (rows : List Row) (ns : List FN) (H : Hp) (a : Addr) (x : Cp) : Prop := ∃ z cs q, H a = some (.tup [.int x.1, .int ((x.2.length : Nat) : Int), .str z, .ref q]) ∧ H q = some (.tup (nI cs)) ∧ (∀ c ∈ cs, c < ns.length) ∧ cs.length = wR rows z ∧ HasN rows z ∧ x.2 = z :: catS ns cs
theorem VBs.tk {rows : List Row} {ns : List FN} {H H' : Hp} {a : Addr} {x : Cp} (h : VBs rows ns H a x) (k : ∀ t ys, H t = some (.tup ys) → H' t = some (.tup ys)) : VBs rows ns H' a x := by
  obtain ⟨z, cs, q, h1, h2, h3⟩ := h
  exact ⟨z, cs, q, k _ _ h1, k _ _ h2, h3⟩
theorem slA_lo2 {K : PySem.W.Frag} {H : Hp} {a : Addr} {x y : V} {xs : List V} {Q : VK} (ha : H a = some (.tup (x :: y :: xs))) (k : ∀ r H', Same H H' → H' r = some (.tup [x, y]) → Q (.ref r) H') : rSlA K (.ref a) none (some (2 : Int)) H Q := by
  have e2 : HT.sIx (x :: y :: xs).length (x :: y :: xs).length (some (2 : Int)) = 2 := by
    rw [show (some (2 : Int)) = some ((2 : Nat) : Int) from rfl, HT.sIx_nat]
    simp
  refine ⟨a, _, rfl, (Tq.of ha).sq, fun h => ?_, fun _ p hp => ?_⟩
  · rw [e2] at h
    refine k a H (Same.refl H) ?_
    have : xs = [] := List.eq_nil_of_length_eq_zero (by have := h.2; rw [List.length_cons, List.length_cons] at this; omega)
    rw [this] at ha
    exact ha
  · have hc : cutV (x :: y :: xs) none (some (2 : Int)) = [x, y] := by
      unfold cutV
      rw [e2]
      rfl
    rw [hc]
    exact k p _ ((Same.refl H).upd_new hp) upd_same
theorem slA_hi2 {K : PySem.W.Frag} {H : Hp} {a : Addr} {x y : V} {xs : List V} {Q : VK} (ha : H a = some (.tup (x :: y :: xs))) (hx : xs ≠ []) (k : ∀ r H', Same H H' → H' r = some (.tup xs) → Q (.ref r) H') : rSlA K (.ref a) (some (2 : Int)) none H Q := by
  have e1 : HT.sIx (x :: y :: xs).length 0 (some (2 : Int)) = 2 := by
    rw [show (some (2 : Int)) = some ((2 : Nat) : Int) from rfl, HT.sIx_nat]
    simp
  have e2 : HT.sIx (x :: y :: xs).length (x :: y :: xs).length none = (x :: y :: xs).length := rfl
  refine ⟨a, _, rfl, (Tq.of ha).sq, fun h => ?_, fun _ p hp => ?_⟩
  · rw [e1] at h
    exact absurd h.1 (by decide)
  · have hc : cutV (x :: y :: xs) (some (2 : Int)) none = xs := by
      unfold cutV
      rw [e1, e2]
      show (xs.take _) = xs
      exact List.take_of_length_le (by simp)
    rw [hc]
    exact k p _ ((Same.refl H).upd_new hp) upd_same
def spBetter52 (P : Program) (w : World) (CC CF : Addr) : Sp := fun vs H Q _ => ∃ (s p q c rd rk f : Addr) (rows : List Row) (F : FA) (S : FS) (x y : Cp), vs = [.ref s, .ref p, .ref q] ∧ ChK P w CC CF H s c rd rk f rows F S ∧ ROk 4 rows ∧ VBs rows S.ns H p x ∧ VBs rows S.ns H q y ∧ ∀ H', Same H H' → Q (.bl (pBb (rkS rows) x y)) H'
def BefOk (P : Program) (w : World) (K : PySem.W.Frag) (mg : Str → Option Value) (base : Heap) (CC CF : Addr) : Prop := ∃ f, Meth K CC "is_before" f ∧ FnR P w K mg base CX0 2 f (spBefore52 P w CC CF)
def BetOk (P : Program) (w : World) (K : PySem.W.Frag) (mg : Str → Option Value) (base : Heap) (CC CF : Addr) : Prop := ∃ f, Meth K CC "is_better" f ∧ FnR P w K mg base CX0 3 f (spBetter52 P w CC CF)
theorem lk_chm (c rd rk f : Addr) {x : Str} (h : ("prices" : Str) ≠ x ∧ ("reader" : Str) ≠ x ∧ ("ranks" : Str) ≠ x ∧ ("forest" : Str) ≠ x) : (chF c rd rk f).lookup x = none := by
  have e : ∀ y : Str, y ≠ x → (x == y) = false := fun y n => beq_eq_false_iff_ne.mpr (Ne.symm n)
  simp [chF, List.lookup, e _ h.1, e _ h.2.1, e _ h.2.2.1, e _ h.2.2.2]
abbrev N_Changer_is_better : List Str := ["self", "choice", "other"]
theorem sc_Changer_is_better : FnScope N_Changer_is_better ["self", "choice", "other"] (defScope s_Changer_is_better) := ⟨rfl, rfl, rfl, by decide +kernel, rfl, by decide +kernel, by decide +kernel⟩
section
variable {P : Program} {w : World} {K : PySem.W.Frag} {mg : Str → Option Value} {base : Heap} {CC CF : Addr}
theorem body_better (T : Bk mg) (B : ChT K CC) (c_is_before : BefOk P w K mg base CC CF) {f0 : Addr} {cdv : Value} {A' : Around} {outer : List Env} {s' : Shared} {H : Hp} {vs : List V} {Q : VK} {E : XK} (hr : Room 2 (A'.deeper (envOfC "Changer.is_better" (defScope s_Changer_is_better) s'.heap.objs.size f0 cdv))) (h : spBetter52 P w CC CF vs H Q E) :
    ∃ t, PSs (cxOf CX0 P w K mg base N_Changer_is_better "Changer.is_better" (defScope s_Changer_is_better) f0 cdv A' outer s' H E).nox (defBody s_Changer_is_better) t ∧ t { nx := fun _ H' => Q .non H', rt := Q } (start N_Changer_is_better vs) H := by
  obtain ⟨fM, M_is_before, F_is_before⟩ := c_is_before
  obtain ⟨s, p, q, c', rd, rk, f, rows, F, S, x, y, rfl, hC, R, ⟨z, cs, a, hp, ha, lc, wc, hz, ex⟩, ⟨z', ds, b, hq, hb, ld, wd, hz', ey⟩, k⟩ := h
  have hu := hu_of hr
  obtain ⟨dx, ho⟩ := hC.o
  refine ⟨_, (pss_cons (ps_if (pt_cmpR (op_neD hr.units) (pe_slice sl_tupA (pv 1) po_none (po_some pe_int)) (pe_slice sl_tupA (pv 2) po_none (po_some pe_int)) (nomark _))
      (pss_one (ps_ret (pe_cmpR (op_ltT (Nat.lt_of_succ_lt hu)) (pe_slice sl_tupA (pv 1) po_none (po_some pe_int)) (pe_slice sl_tupA (pv 2) po_none (po_some pe_int)) (nomark _))))
      pss_nil)
    (pss_one (ps_ret (pe_methR (pv 0) B.cl M_is_before F_is_before (hr.mono (by decide)) pass0 (pa_cons (pe_slice sl_tupA (pv 1) (po_some pe_int) po_none) (pa_cons (pe_slice sl_tupA (pv 2) (po_some pe_int) po_none) pa_nil)))))), ?_⟩
  refine ⟨_, rfl, _, rfl, slA_lo2 hp fun p1 H1 s1 h1 => ⟨_, rfl, _, rfl, slA_lo2 (s1 _ _ hq) fun q1 H2 s2 h2 => ?_⟩⟩
  have s02 := s1.trans s2
  have shp : ∀ i j : Int, SeqAt.shaped (.tuple [.int i, .int j]) = true := fun i j => shp_tup (by simp [SeqAt.shaped, PyData.canLay0, PyData.canLayAll0, PyData.depth, PyData.depthAll])
  refine ⟨.tuple [.int x.1, .int ((x.2.length : Nat) : Int)], .tuple [.int y.1, .int ((y.2.length : Nat) : Int)], .tup (SqT.of (s2 _ _ h1)) (.cons (.int _) (.cons (.int _) .nil)), .tup (SqT.of h2) (.cons (.int _) (.cons (.int _) .nil)), shp _ _, shp _ _, _, rfl, ?_⟩
  have ev : PyData.eqv (.tuple [.int x.1, .int ((x.2.length : Nat) : Int)]) (.tuple [.int y.1, .int ((y.2.length : Nat) : Int)]) = (decide (x.1 = y.1) && decide (x.2.length = y.2.length)) := by
    rw [PyData.eqv, PyData.eqvAll, PyData.eqvAll, PyData.eqvAll, Bool.and_true, PyData.eqv, PyData.eqv]
    congr 1
    exact decide_eq_decide.mpr ⟨fun h => by omega, fun h => by omega⟩
  rw [ev]
  refine ite2 (fun c => ?_) (fun c => ?_)
  · refine ⟨_, rfl, _, rfl, slA_lo2 (s02 _ _ hp) fun p3 H3 s3 h3 => ⟨_, rfl, _, rfl, slA_lo2 ((s02.trans s3) _ _ hq) fun q4 H4 s4 h4 => ?_⟩⟩
    refine ⟨p3, q4, [x.1, ((x.2.length : Nat) : Int)], [y.1, ((y.2.length : Nat) : Int)], rfl, rfl, SqT.of (s4 _ _ h3), SqT.of h4, ?_⟩
    have k := k H4 ((s02.trans s3).trans s4)
    have e : HT.lexLt [x.1, ((x.2.length : Nat) : Int)] [y.1, ((y.2.length : Nat) : Int)] = pBb (rkS rows) x y := by
      rw [HT.lexLt_cons, HT.lexLt_cons, HT.lexLt_nil_nil]
      unfold pBb
      by_cases e1 : x.1 = y.1
      · rw [if_pos e1]
        by_cases e2 : x.2.length = y.2.length
        · rw [e1, e2] at c
          simp at c
        · rw [if_neg (by omega), decide_eq_true e1, decide_eq_false (by omega : ¬ x.1 < y.1), decide_eq_false e2, Bool.false_and, Bool.or_false, Bool.false_or, Bool.true_and]
          exact decide_eq_decide.mpr ⟨fun h => by omega, fun h => by omega⟩
      · rw [if_neg e1, decide_eq_false e1, Bool.false_and, Bool.or_false]
    rw [e]
    exact k
  · have e1 : x.1 = y.1 := by
      by_cases e : x.1 = y.1
      · exact e
      · exact absurd (by simp [e]) c
    have e2 : x.2.length = y.2.length := by
      by_cases e : x.2.length = y.2.length
      · exact e
      · exact absurd (by simp [e]) c
    refine ⟨_, rfl, s, dx, _, rfl, s02 _ _ ho, lk_chm _ _ _ _ (x := "is_before") (by decide +kernel), _, rfl, _, rfl, ?_⟩
    unfold tNoPart
    refine slA_hi2 (s02 _ _ hp) (by simp) fun p3 H3 s3 h3 => ⟨_, rfl, _, rfl, ?_⟩
    refine slA_hi2 ((s02.trans s3) _ _ hq) (by simp) fun q4 H4 s4 h4 => ?_
    have s04 := (s02.trans s3).trans s4
    refine ⟨s, p3, q4, a, b, c', rd, rk, f, rows, F, S, z, z', cs, ds, rfl, hC.same s04, R, s4 _ _ h3, s04 _ _ ha, h4, s04 _ _ hb, hz, hz', wc, wd, lc, ld, fun H5 s5 => ?_⟩
    have k := k H5 (s04.trans s5)
    have e : pBb (rkS rows) x y = lexB (rkS rows) (z :: catS S.ns cs) (z' :: catS S.ns ds) := by
      unfold pBb
      rw [decide_eq_true e1, decide_eq_true e2, decide_eq_false (by omega : ¬ x.1 < y.1), decide_eq_false (by omega : ¬ x.2.length < y.2.length), ← ex, ← ey]
      simp
    rw [← e]
    exact k
end
/-- a reader without its bed -/
def RdX (CR : Addr) (H : Hp) (p : Addr) (rows : List Row) (D : RdD) : Prop := ∃ (dx b d mt : Addr) (ds : List Addr), H p = some (.ins CR dx (rdF b D.many d mt D.rest)) ∧ CzAt H d (rows.map (·.1)) ds D.rws ∧ H mt = some (.tup (nI D.marks))
theorem RdAt.x {C CR : Addr} {H : Hp} {p b : Addr} {rows : List Row} {D : RdD} (h : RdAt C CR H p b rows D) : RdX CR H p rows D := by
  obtain ⟨dx, d, mt, ds, h1, _, h3, h4⟩ := h
  exact ⟨dx, b, d, mt, ds, h1, h3, h4⟩
theorem RdX.same {CR : Addr} {H H' : Hp} {p : Addr} {rows : List Row} {D : RdD} (h : RdX CR H p rows D) (s : Same H H') : RdX CR H' p rows D := by
  obtain ⟨dx, b, d, mt, ds, h1, h3, h4⟩ := h
  exact ⟨dx, b, d, mt, ds, s _ _ h1, h3.same s, s _ _ h4⟩
def spOff52 (P : Program) (w : World) (CR CC CF : Addr) : Sp := fun vs H Q _ => ∃ (s d t u c rd rk f : Addr) (rows : List Row) (D : RdD) (F : FA) (S : FS) (x : Cp) (y : Str) (ss : List Nat) (O : Off) (T : Tb), vs = [.ref s, .ref d, .ref t, .ref u] ∧ ChK P w CC CF H s c rd rk f rows F S ∧ ROk 4 rows ∧ RdX CR H rd rows D ∧ D.Ok rows ∧ VBs rows S.ns H t x ∧ H u = some (.tup (nI ss)) ∧ (∃ l, x.2 = y :: l) ∧ ss.length = wR rows y ∧ (∀ z ∈ ss, z < D.many) ∧ DtAt (VBs rows S.ns) H d T ∧ Bst (rkS rows) O T ∧ ∀ (H' : Hp) (T' : Tb), Kp d H H' → DtAt (VBs rows S.ns) H' d T' → Bst (rkS rows) (O.add (D.stp y ss) x) T' → Q .non H'
theorem rd_lk (b d m : Addr) (n o : Nat) : (rdF b n d m o).lookup ("cells" : Str) = some (.ref d) ∧ (rdF b n d m o).lookup ("otherwise" : Str) = some (.int ((o : Nat) : Int)) ∧ (rdF b n d m o).lookup ("marks" : Str) = some (.ref m) ∧ (rdF b n d m o).lookup ("bed" : Str) = some (.ref b) := by
  have h1 : (("cells" : Str) == "bed") = false := by decide +kernel
  have h2 : (("cells" : Str) == "states") = false := by decide +kernel
  have h3 : (("otherwise" : Str) == "bed") = false := by decide +kernel
  have h4 : (("otherwise" : Str) == "states") = false := by decide +kernel
  have h5 : (("otherwise" : Str) == "cells") = false := by decide +kernel
  have h6 : (("otherwise" : Str) == "marks") = false := by decide +kernel
  have h7 : (("marks" : Str) == "bed") = false := by decide +kernel
  have h8 : (("marks" : Str) == "states") = false := by decide +kernel
  have h9 : (("marks" : Str) == "cells") = false := by decide +kernel
  simp [rdF, List.lookup, h1, h2, h3, h4, h5, h6, h7, h8, h9]
abbrev N_Changer_offer : List Str := ["self", "best", "choice", "row", "state"]
theorem sc_Changer_offer : FnScope N_Changer_offer ["self", "best", "choice", "row"] (defScope s_Changer_offer) := ⟨rfl, rfl, rfl, by decide +kernel, rfl, by decide +kernel, by decide +kernel⟩
section
variable {P : Program} {w : World} {K : PySem.W.Frag} {mg : Str → Option Value} {base : Heap} {CR CC CF : Addr}
theorem body_offer (T : Bk mg) (B : ChT K CC) (BR : RdT K CR) (c_is_better : BetOk P w K mg base CC CF) {f0 : Addr} {cdv : Value} {A' : Around} {outer : List Env} {s' : Shared} {H : Hp} {vs : List V} {Q : VK} {E : XK} (hr : Room 3 (A'.deeper (envOfC "Changer.offer" (defScope s_Changer_offer) s'.heap.objs.size f0 cdv))) (h : spOff52 P w CR CC CF vs H Q E) :
    ∃ t, PSs (cxOf CX0 P w K mg base N_Changer_offer "Changer.offer" (defScope s_Changer_offer) f0 cdv A' outer s' H E).nox (defBody s_Changer_offer) t ∧ t { nx := fun _ H' => Q .non H', rt := Q } (start N_Changer_offer vs) H := by
  obtain ⟨fM, M_is_better, F_is_better⟩ := c_is_better
  obtain ⟨s, d, t, u, c, rd, rk, f, rows, D, F, S, x, y, ss, O, Tt, rfl, hC, R, hRd, Ok, hx, hu0, ⟨l0, ex⟩, lss, sm, hD, Bt, k⟩ := h
  have hu := hu_of hr
  obtain ⟨dx, ho⟩ := hC.o
  obtain ⟨z, cs, q, hp, hq, lc, wc, hz, ex2⟩ := id hx
  have ey : z = y := by
    rw [ex] at ex2
    injection ex2 with e _
    exact e.symm
  subst ey
  obtain ⟨dr, b, dc, mt, ds, r1, r3, r4⟩ := id hRd
  obtain ⟨g1, g2, g3, g4⟩ := rd_lk b dc mt D.many D.rest
  obtain ⟨qr, hqr, eqr⟩ := id hz
  obtain ⟨kk, hk⟩ := List.mem_iff_getElem?.mp (List.mem_map.mpr ⟨qr, hqr, eqr⟩ : z ∈ rows.map (·.1))
  have hkl := (List.getElem?_eq_some_iff.mp hk).1
  have hda := List.getElem?_eq_getElem (show kk < ds.length by rw [r3.len]; exact hkl)
  generalize ds[kk]'(by rw [r3.len]; exact hkl) = a at hda
  have ha := r3.row kk z a hk hda
  have gT : DGet H dc (.str z) (some (.ref a)) := by
    have := DGet.k (k := .inr z) r3.at_
    rw [tn_val R.nd hk hda] at this
    exact this
  have gS : ∃ o, DGet H a (.ref u) o ∧ o.getD (.int ((D.rest : Nat) : Int)) = .int ((D.stp z ss : Nat) : Int) := by
    refine ⟨_, DGet.t (k := tkey ss) ha (by rw [hu0, tkey_V]), ?_⟩
    rw [cz_val]
    unfold RdD.stp
    cases D.rws.find? (fun e => decide (ek e = (z, ss))) with
    | none => rfl
    | some e => rfl
  obtain ⟨o, gS, eo⟩ := gS
  have hs3 := Nat.lt_of_lt_of_le (Ok.stp_lt R hz lss sm) Ok.m3
  refine ⟨_, (pss_cons (ps_set (i := 4) sc_Changer_offer.nd rfl (Or.inl rfl) (pe_dget2 hu (pe_dget hu (pe_fld (pe_fld (pv 0) rfl) rfl) (pe_ix ix_tup (pv 2) pe_int (fun _ _ => rfl)) (fun _ _ => rfl)) (pv 3) (pe_fld (pe_fld (pv 0) rfl) rfl) ⟨rfl, rfl, rfl, rfl⟩))
    (pss_one (ps_if (PW.pt (pw_or (pt_cmp (pc_dnotin hu (pv 4) (pv 1))) (pw_or1 (pt_val (pe_methR (pv 0) B.cl M_is_better F_is_better (hr.mono (by decide)) pass0 (pa_cons (pv 2) (pa_cons (pe_dget hu (pv 1) (pv 4) (fun _ _ => rfl)) pa_nil)))))))
      (pss_one (ps_dput hu (pv 1) (pv 4) (pv 2) rfl))
      pss_nil))), ?_⟩
  refine ⟨_, rfl, s, CC, dx, _, _, rfl, ho, B.cl, B.nR, ch_reader _ _ _ _, rd, CR, dr, _, _, rfl, r1, BR.cl, BR.nC, g1, _, rfl, t, _, _, _, rfl, rfl, SqT.of hp, atI_nat (j := 2) rfl, dc, _, rfl, gT, ?_⟩
  refine ⟨a, rfl, ?_, _, rfl, _, rfl, s, CC, dx, _, _, rfl, ho, B.cl, B.nR, ch_reader _ _ _ _, rd, CR, dr, _, _, rfl, r1, BR.cl, BR.nO, g2, o, gS, ?_⟩
  · exact .inr ⟨_, .of ha⟩
  rw [eo]
  generalize D.stp z ss = st at hs3 k
  have put : (Tt st = none ∨ ∃ y, Tt st = some y ∧ pB (rkS rows) x y) → ∀ {H1 : Hp}, Same H H1 → ∃ H2, DPut H1 d (.int ((st : Nat) : Int)) (.ref t) H2 ∧ Q .non H2 := fun hput {H1} s1 => by
    obtain ⟨es, hes, _⟩ := id hD
    have hD1 : DtAt (VBs rows S.ns) H1 d Tt := hD.keep (by rw [hes, s1 _ _ hes]) fun a y h => h.tk fun _ _ q => s1 _ _ q
    have d1 := s1 _ _ hes
    obtain ⟨oo, h1, h2⟩ := hD1.put hs3 (a := t) (x := x) (hx.tk fun _ _ q => s1 _ _ q) fun o a y h => h.tk fun t ys q => by rw [upd_ne (ne_of q d1 (fun e => nomatch e))]; exact q
    exact ⟨_, h1, k _ _ ((Kp.same s1).trans (Kp.refl d H1).upd) h2 (Bt.put hput)⟩
  cases hs : Tt st with
  | none =>
    obtain ⟨H2, p1, p2⟩ := put (.inl hs) (Same.refl H)
    exact ⟨_, rfl, _, rfl, d, _, rfl, hD.no hs, _, rfl, ifp rfl (ifp rfl ⟨_, rfl, _, rfl, _, rfl, d, _, rfl, p1, p2⟩)⟩
  | some yy =>
    obtain ⟨v, gv, hv⟩ := hD.get hs
    refine ⟨_, rfl, _, rfl, d, _, rfl, gv, _, rfl, ifn (by simp) ?_⟩
    refine ⟨_, rfl, s, dx, _, rfl, ho, lk_chm _ _ _ _ (x := "is_better") (by decide +kernel), _, rfl, _, rfl, _, rfl, d, _, rfl, gv, s, t, v, c, rd, rk, f, rows, F, S, x, yy, rfl, hC, R, hx, hv, fun H1 s1 => ⟨_, rfl, ?_⟩⟩
    cases hb : pBb (rkS rows) x yy with
    | true =>
      obtain ⟨H2, p1, p2⟩ := put (.inr ⟨yy, hs, pBb_iff.mp hb⟩) s1
      exact ifp rfl ⟨_, rfl, _, rfl, _, rfl, d, _, rfl, p1, p2⟩
    | false =>
      obtain ⟨es, hes, _⟩ := id hD
      refine ifn (by decide) (k _ Tt (Kp.same s1) (hD.keep (by rw [hes, s1 _ _ hes]) fun a y h => h.tk fun _ _ q => s1 _ _ q) (Bt.skip hs fun n => ?_))
      rw [pBb_iff.mpr n] at hb
      cases hb
end
end Sh
end
section
set_option Elab.async false
set_option linter.all false
set_option maxRecDepth 100000
set_option maxHeartbeats 16000000
namespace Sh
open PySem PySem.Spec PyProof.Rows L2
open C8 (pss_cut tCut)
open Evl (ixN_nat)
def lfB (q : Row) : Bool := decide (q.2 = 0)
def leafs (rows : List Row) : List Str := (rows.filter lfB).map (·.1)
theorem leafs_snoc {rows : List Row} {i : Nat} {q : Row} (h : rows[i]? = some q) : leafs (rows.take (i + 1)) = leafs (rows.take i) ++ if q.2 = 0 then [q.1] else [] := by
  unfold leafs
  rw [List.take_add_one, h, List.filter_append, List.map_append]
  congr 1
  show (List.filter lfB [q]).map _ = _
  by_cases c : q.2 = 0
  · rw [if_pos c, List.filter_cons_of_pos (by unfold lfB; rw [c]; rfl)]
    rfl
  · rw [if_neg c, List.filter_cons_of_neg (by unfold lfB; simp [c])]
    rfl
def spLeaves (C : Addr) : Sp := fun vs H Q _ => ∃ (b : Addr) (rows : List Row), vs = [.ref b] ∧ BedAt C H b rows ∧ ROk 4 rows ∧ ∀ H' t, Same H H' → H' t = some (.tup (sV (leafs rows))) → Q (.ref t) H'
def LeavOk (P : Program) (w : World) (K : PySem.W.Frag) (mg : Str → Option Value) (base : Heap) (C : Addr) : Prop := ∃ f, Meth K C "leaves" f ∧ FnR P w K mg base CX0 1 f (spLeaves C)
theorem lk_leaves (r k w rk : Addr) : (bedF r k w rk).lookup ("leaves" : Str) = none := by
  have n : ¬ ("leaves" : Str) = "rows" ∧ ¬ ("leaves" : Str) = "kinds" ∧ ¬ ("leaves" : Str) = "widths" ∧ ¬ ("leaves" : Str) = "ranks" := by decide +kernel
  simp [bedF, List.lookup, n, beq_eq_false_iff_ne.mpr]
abbrev N_leaves : List Str := ["self", "name", "many"]
theorem sc_leaves : FnScope N_leaves ["self"] (defScope s_leaves) := ⟨rfl, rfl, rfl, by decide +kernel, rfl, by decide +kernel, by decide +kernel⟩
abbrev N_check_beds : List Str := ["beds", "bed"]
theorem sc_check_beds : FnScope N_check_beds ["beds"] (defScope s_check_beds) := ⟨rfl, rfl, rfl, by decide +kernel, rfl, by decide +kernel, by decide +kernel⟩
def spBedsU (C : Addr) : Sp := fun vs H Q _ => ∃ (t : Addr) (bs : List Addr) (rows : List Row), vs = [.ref t] ∧ H t = some (.lst (bs.map V.ref)) ∧ (∀ b ∈ bs, BedAt C H b rows) ∧ ROk 8 rows ∧ bs.length ≤ 1000 ∧ ∀ H', Same H H' → Q .non H'
section
variable {P : Program} {w : World} {K : PySem.W.Frag} {mg : Str → Option Value} {base : Heap} {C : Addr}
theorem ok_leaves (T : Bl mg) (B : BedT K C) {f : Addr} {fd : FuncData} (F : FunD K "leaves" "Bed.leaves" (defArgs s_leaves) (defBody s_leaves) (defScope s_leaves) [] [] f fd) (M : Meth K C "leaves" f) : LeavOk P w K mg base C := by
  have G : FnOk P w K mg base CX0 1 f fd ["self"] (spLeaves C) := F.ok sc_leaves (fun vs H Q E h => by obtain ⟨b, rows, rfl, _⟩ := h; rfl) fun cdv A outer s H vs Q E hr h => by
    obtain ⟨b, rows, rfl, hB, R, k⟩ := h
    have r4 := R.len
    obtain ⟨dx, r, kk, ww, rk, ts, h1, h2, h3, h4, h5, h6⟩ := hB
    have lts : (ts.map V.ref).length = rows.length := by rw [List.length_map, h3.1]
    refine ⟨_, (pss_one (ps_ret (pe_callTy call_tuple_of (by rfl) T.b_tuple (by decide +kernel) (pa_cons (pe_lc (own := [("name", 1), ("many", 2)]) (g := (gTup K 2 (gCons (gName 1) (gCons (gName 2) gNil)))) rfl sc_leaves.nd (pi_tup (pe_fld (pv 0) rfl)) (blkOk_by (N := N_leaves) (sc := defScope s_leaves) (by decide +kernel)) (fun _ _ _ _ _ => (pg_tup (by rfl) (pgs_cons (pg_name (i := 1) sc_leaves.nd rfl (Or.inl rfl)) (pgs_cons (pg_name (i := 2) sc_leaves.nd rfl (Or.inl rfl)) pgs_nil)))) (fun _ _ _ _ _ => (pts_one (pt_cmpR op_eq (pv 2) pe_int (nomark _)))) (fun _ _ _ _ _ => (pv 1))) pa_nil)))), ?_⟩
    refine ⟨_, rfl, b, C, dx, _, _, rfl, h1, B.cl, B.nR, lk_rows _ _ _ _, r, rfl, ⟨_, SqT.of h2⟩, fun D hD => lc_it (walk_tup (xs := ts.map V.ref)) (fun i H' => Same H H' ∧ H' D = some (.lst (sV (leafs (rows.take i))))) ⟨(Same.refl H).upd_new hD, upd_same⟩ (fun i H' _ ⟨q, _⟩ => SqT.of (q _ _ h2)) ?_ ?_⟩
    · rintro i v H1 H2 hi ⟨q1, q2⟩ ⟨rfl, hv⟩
      obtain ⟨t, ht, rfl⟩ := get_map_r hv
      have hir : i < rows.length := by rw [← lts]; exact hi
      have hq := List.getElem?_eq_getElem hir
      have htu := q1 _ _ (h3.2 i t rows[i] ht hq)
      have el := leafs_snoc hq
      generalize rows[i] = q at hq htu el
      refine ⟨t, _, rfl, SqT.of htu, rfl, _, _, rfl, _, _, rfl, rfl, rfl, ?_⟩
      refine ⟨_, rfl, rfl, _, rfl, ite2 (fun c => ?_) (fun c => ?_)⟩
      · rw [veq] at c
        rw [if_pos (of_decide_eq_true c)] at el
        refine ⟨_, rfl, _, q2, ?_, q1.upd_own hD, ?_⟩
        · rw [sV_len]
          unfold leafs
          rw [List.length_map]
          exact lt_line (Nat.le_trans (List.length_filter_le _ _) (by rw [List.length_take]; omega))
        · rw [upd_same, el]
          unfold sV
          rw [List.map_append]
          rfl
      · rw [veq] at c
        rw [if_neg (fun e => c (decide_eq_true e)), List.append_nil] at el
        refine ⟨q1, ?_⟩
        rw [el]
        exact q2
    · rintro H1 ⟨q1, q2⟩
      rw [lts, List.take_length] at q2
      exact ⟨D, _, rfl, .inl ⟨SqL.of q2, fun p hp => k _ p (q1.upd_new hp) upd_same⟩⟩
  refine ⟨f, M, fun A' outer s H us vs Q E hr e0 r hs => G.raw (F.bindsN fun _ _ _ _ _ _ us hl => match us, hl with | [_], _ => rfl) .nil A' outer s H us vs Q E hr e0 r (by show spLeaves C (vs ++ []) H Q E; rw [List.append_nil]; exact hs)⟩
theorem ok_check_bedsU (T : Bl mg) (B : BedT K C) (c_same : SmOk P w K mg base C) (D : Def0 K mg "check_beds" s_check_beds) : DefOk P w K mg base CX0 2 "check_beds" (spBedsU C) := by
  obtain ⟨fM, M_same, F_same⟩ := c_same
  refine D.ok sc_check_beds (fun vs H Q E h => ?_) (fun _ _ _ _ _ _ us hl => match us, hl with | [_], _ => rfl) (fun f cdv A outer s' H vs Q E hr h => ?_)
  · obtain ⟨t, bs, rows, rfl, _⟩ := h
    rfl
  · obtain ⟨t, bs, rows, rfl, ht, hb, R, hl, k⟩ := h
    refine ⟨_, (pss_one (ps_for PassesOwn.never rfl (pi_list (pv 0)) (pg_name (i := 1) sc_check_beds.nd rfl (Or.inl rfl))
        (pss_one (ps_if (pt_not (pt_val (pe_methR (pe_ix ix_list (pv 0) pe_int (fun _ _ => rfl)) B.cl M_same F_same (hr.mono (by decide)) pass0 (pa_cons (pv 1) pa_nil))))
          (pss_one ps_never)
          pss_nil)))), ?_⟩
    refine ⟨_, rfl, t, rfl, ⟨_, SqL.of ht⟩, for_it (walk_list (xs := bs.map V.ref)) (fun i σ H' => ∃ x : Option V, σ = [some (.ref t), x] ∧ Same H H') ⟨none, rfl, Same.refl H⟩ (fun i σ H' _ ⟨_, _, q⟩ => SqL.of (q _ _ ht)) ?_ ?_⟩
    · rintro i v σ H1 H2 hi ⟨x, rfl, s1⟩ ⟨rfl, hv⟩
      obtain ⟨b, hb2, rfl⟩ := get_map hv
      have hpos : 0 < bs.length := Nat.lt_of_le_of_lt (Nat.zero_le i) (lt_of_get hb2)
      have B0 := (hb _ (List.getElem_mem hpos)).same s1
      have B1 := (hb _ (List.mem_of_getElem? hb2)).same s1
      obtain ⟨dx, r, kk, ww, rk, ts, h1, h2⟩ := id B0
      refine ⟨_, rfl, t, _, _, _, rfl, rfl, SqL.of (s1 _ _ ht), atI_nat (j := 0) (by rw [List.getElem?_map, List.getElem?_eq_getElem hpos]; rfl), bs[0], dx, _, rfl, h1, lk_same _ _ _ _, _, rfl, bs[0], b, rows, rfl, B0, B1, R, ?_⟩
      exact ⟨_, rfl, ifn (by decide) ⟨_, rfl, s1⟩⟩
    · rintro σ H1 ⟨x, rfl, s1⟩
      exact k _ s1
end
end Sh
end
section
set_option Elab.async false
set_option linter.all false
set_option maxRecDepth 100000
set_option maxHeartbeats 16000000
namespace Sh
open PySem PySem.Spec PyProof.Rows L2
open C8 (pss_cut tCut)
open Evl (ixN_nat)
def VPt (ns : List FN) (H : Hp) (a : Addr) (x : Cp) : Prop := ∃ i : Nat, H a = some (.tup [.int x.1, .int ((i : Nat) : Int)]) ∧ i < ns.length ∧ trS ns i = x.2
def OffOk (P : Program) (w : World) (K : PySem.W.Frag) (mg : Str → Option Value) (base : Heap) (CR CC CF : Addr) : Prop := ∃ f, Meth K CC "offer" f ∧ FnR P w K mg base CX0 4 f (spOff52 P w CR CC CF)
def NodOk (P : Program) (w : World) (K : PySem.W.Frag) (mg : Str → Option Value) (base : Heap) (CF : Addr) : Prop := ∃ f, Meth K CF "node_for" f ∧ FnR P w K mg base CX0 2 f (spNode P w CF)
theorem DtAt.sm {rows : List Row} {ns : List FN} {H H' : Hp} {d : Addr} {T : Tb} (h : DtAt (VBs rows ns) H d T) (s : Same H H') : DtAt (VBs rows ns) H' d T := by
  obtain ⟨es, hes, _⟩ := id h
  exact h.keep (by rw [hes, s _ _ hes]) fun a x hv => hv.tk fun _ _ q => s _ _ q
theorem prl_bed (b : Addr) (c : Int) (q d : Addr) : (prF b c q d).lookup ("bed" : Str) = some (.ref b) := by simp [prF, List.lookup]
theorem prl_cut (b : Addr) (c : Int) (q d : Addr) : (prF b c q d).lookup ("cutting" : Str) = some (.int c) := by
  have h1 : (("cutting" : Str) == "bed") = false := by decide +kernel
  simp [prF, List.lookup, h1]
theorem prl_turns (b : Addr) (c : Int) (q d : Addr) : (prF b c q d).lookup ("turns" : Str) = some (.ref d) := by
  have h1 : (("turns" : Str) == "bed") = false := by decide +kernel
  have h2 : (("turns" : Str) == "cutting") = false := by decide +kernel
  have h3 : (("turns" : Str) == "swaps") = false := by decide +kernel
  simp [prF, List.lookup, h1, h2, h3]
theorem ForAt.updK {P : Program} {w : World} {CF f g : Addr} {F : FA} {ns : List FN} {zs : List Nat} {cs : List Bool} {H : Hp} {ys : List (Key × V)} {o : HO} (O : ForAt P w CF H f F ns zs cs) (hg : H g = some (.dK ys)) : ForAt P w CF (upd H g o) f F ns zs cs := by
  obtain ⟨dx, h1⟩ := O.o
  obtain ⟨bs, h2, h3⟩ := O.b
  have nl : ∀ {a : Addr} {u : HO}, H a = some u → (∀ y, u ≠ .dK y) → (upd H g o) a = some u := fun {a} {u} h n => by
    rw [upd_ne (ne_of h hg (n _))]
    exact h
  obtain ⟨z1, z2, zz, z3, hz⟩ := id O.d
  have ned : F.d ≠ g := fun e => by rw [e, hg] at hz; cases hz
  exact ⟨O.ap, ⟨dx, nl h1 (fun _ e => nomatch e)⟩, O.d.keeps (fun b ys h => nl h (fun _ e => nomatch e)) (upd_ne ned), nl O.l (fun _ e => nomatch e), ⟨bs, nl h2 (fun _ e => nomatch e), h3.1, fun i b n q1 q2 => nl (h3.2 i b n q1 q2) (fun _ e => nomatch e)⟩, nl O.z (fun _ e => nomatch e), nl O.c (fun _ e => nomatch e), O.lz, O.lc⟩
theorem ChK.lock {P : Program} {w : World} {CC CF : Addr} {H : Hp} {p c rd rk f a : Addr} {rows : List Row} {F : FA} {S : FS} {ys : List (Key × V)} {od : Obj} (x : ChK P w CC CF H p c rd rk f rows F S) (ha : H a = some (.dK ys)) : ChK P w CC CF (upd H a (.frz od (.dK ys))) p c rd rk f rows F S := by
  obtain ⟨⟨dx, h⟩, h2, h3, h4⟩ := x
  refine ⟨⟨dx, by rw [upd_ne (ne_of h ha (fun e => nomatch e))]; exact h⟩, ?_, h3.updK ha, h4⟩
  by_cases e : rk = a
  · subst e
    rcases h2 with h2 | ⟨o, h2⟩
    · rw [ha] at h2
      injection h2 with h2
      exact .inr ⟨od, by rw [upd_same, h2]⟩
    · rw [ha] at h2
      cases h2
  · rcases h2 with h2 | ⟨o, h2⟩
    · exact .inl (by rw [upd_ne e]; exact h2)
    · exact .inr ⟨o, by rw [upd_ne e]; exact h2⟩
theorem RdX.lock {CR : Addr} {H : Hp} {p a : Addr} {rows : List Row} {D : RdD} {ys : List (Key × V)} {od : Obj} (x : RdX CR H p rows D) (ha : H a = some (.dK ys)) (hn : ∃ y i, valV ys (.inr y) = some (.int i)) : RdX CR (upd H a (.frz od (.dK ys))) p rows D := by
  obtain ⟨dx, b, d, mt, ds, h1, h3, h4⟩ := x
  have ned : d ≠ a := fun e => by
    obtain ⟨y, i, hv⟩ := hn
    have h5 := h3.at_
    rw [e, ha] at h5
    injection h5 with h5
    injection h5 with h5
    rw [h5] at hv
    unfold valV at hv
    cases hf : (tnL (rows.map (·.1)) ds).find? (fun kv => decide (kv.1 = .inr y)) with
    | none => rw [hf] at hv; cases hv
    | some q =>
      have hm := List.mem_of_find?_eq_some hf
      unfold tnL at hm
      obtain ⟨q', _, rfl⟩ := List.mem_map.mp hm
      rw [hf] at hv
      cases hv
  refine ⟨dx, b, d, mt, ds, by rw [upd_ne (ne_of h1 ha (fun e => nomatch e))]; exact h1, ⟨by rw [upd_ne ned]; exact h3.at_, h3.len, h3.nd, h3.nin, fun i n a' q1 q2 => ?_⟩, by rw [upd_ne (ne_of h4 ha (fun e => nomatch e))]; exact h4⟩
  rw [upd_ne (ne_of (h3.row i n a' q1 q2) ha (fun e => nomatch e))]
  exact h3.row i n a' q1 q2
theorem VPt.same {ns : List FN} {H H' : Hp} {a : Addr} {x : Cp} (h : VPt ns H a x) (s : Same H H') : VPt ns H' a x := by
  obtain ⟨i, h1, h2⟩ := h
  exact ⟨i, s _ _ h1, h2⟩
theorem DsAt.smP {ns : List FN} {H H' : Hp} {ds : List Addr} {Ts : List Tb} (h : DsAt (VPt ns) H ds Ts) (s : Same H H') : DsAt (VPt ns) H' ds Ts := ⟨h.1, fun i d T a b => by
  have x := h.2 i d T a b
  obtain ⟨es, hes, _⟩ := id x
  exact x.keep (by rw [hes, s _ _ hes]) fun a y hv => hv.same s⟩
def OWs (D : RdD) (sws : List Swap) (e : Str) (Ts : List Tb) (W : List (List Nat)) : Off := fun s x => ∃ ss ∈ W, ∃ xs y k, Pick Ts ss xs ∧ swp sws e y = some k ∧ s = D.stp y ss ∧ x = (k + sumC xs, y :: catP xs)
theorem nodes_of {ns : List FN} {H : Hp} : ∀ {vs : List Addr} {xs : List Cp}, vs.length = xs.length → (∀ (i : Nat) (v : Addr) (x : Cp), vs[i]? = some v → xs[i]? = some x → VPt ns H v x) → ∃ is : List Nat, is.length = xs.length ∧ (∀ i ∈ is, i < ns.length) ∧ catS ns is = catP xs ∧ ∀ (i : Nat) (v : Addr) (x : Cp), vs[i]? = some v → xs[i]? = some x → ∃ n, is[i]? = some n ∧ H v = some (.tup [.int x.1, .int ((n : Nat) : Int)]) ∧ trS ns n = x.2
  | [], [], _, _ => ⟨[], rfl, fun i h => (nomatch h), rfl, fun i v x h => by simp at h⟩
  | [], _ :: _, h, _ => by cases h
  | _ :: _, [], h, _ => by cases h
  | v :: vs, x :: xs, lx, V7 => by
    obtain ⟨is, i1, i2, i3, i4⟩ := nodes_of (vs := vs) (xs := xs) (by simpa using lx) fun i v x h1 h2 => V7 (i + 1) v x h1 h2
    obtain ⟨n, n1, n2, n3⟩ := V7 0 v x rfl rfl
    refine ⟨n :: is, by rw [List.length_cons, List.length_cons, i1], fun i h => ?_, ?_, fun i v' x' h1 h2 => ?_⟩
    · rcases List.mem_cons.mp h with rfl | h
      · exact n2
      · exact i2 i h
    · rw [catS_cons, i3, n3]
      unfold catP
      rw [List.map_cons, List.flatten_cons]
    · cases i with
      | zero => cases h1; cases h2; exact ⟨n, rfl, n1, n3⟩
      | succ i => exact i4 i v' x' h1 h2
theorem valV_nd {kvs : List (Key × V)} (nd : (kvs.map (·.1)).Nodup) {q : Key × V} (h : q ∈ kvs) : valV kvs q.1 = some q.2 := by
  induction kvs with
  | nil => cases h
  | cons p kvs ih =>
    rw [List.map_cons] at nd
    obtain ⟨n1, n2⟩ := List.nodup_cons.mp nd
    rcases List.mem_cons.mp h with rfl | g
    · exact valV_pos rfl
    · rw [valV_neg (fun e => n1 (List.mem_map.mpr ⟨q, g, e.symm⟩))]
      exact ih n2 g
theorem valV_mem {kvs : List (Key × V)} {k : Key} {v : V} (h : valV kvs k = some v) : (k, v) ∈ kvs := by
  unfold valV at h
  obtain ⟨q, hq, e⟩ := Option.map_eq_some_iff.mp h
  have hp := List.find?_some hq
  have e1 : q.1 = k := of_decide_eq_true hp
  rw [← e1, ← e]
  exact List.mem_of_find?_eq_some hq
def spTab52 (P : Program) (w : World) (C CP CR CC CF : Addr) : Sp := fun vs H Q _ => ∃ (s bl c rd rk f : Addr) (ds : List Addr) (cut : Int) (e : Str) (rows : List Row) (D : RdD) (sws : List Swap) (F : FA) (S : FS) (Ts : List Tb) (ns : List Nat), vs = [.ref s, .str e, .ref bl] ∧ ChK P w CC CF H s c rd rk f rows F S ∧ ROk 4 rows ∧ RdX CR H rd rows D ∧ D.Ok rows ∧ PrcAt C CP H c rows cut sws ∧ GoodB rows sws sws.length ∧ sws.length ≤ 6 ∧ HasN rows e ∧ H bl = some (.lst (ds.map V.ref)) ∧ DsAt (VPt S.ns) H ds Ts ∧ Ts.length = wR rows e ∧ TbsOk rows D ns Ts ∧ ns.sum ≤ 3000 ∧ S.ns.length ≤ 4000000 ∧
  ∀ (H' : Hp) (d : Addr) (T : Tb) (S' : FS), FFr F H H' → ChK P w CC CF H' s c rd rk f rows F S' → (∀ i, i < S.ns.length → trS S'.ns i = trS S.ns i) → S.ns.length ≤ S'.ns.length → S'.ns.length ≤ S.ns.length + 3 → H d = none → DtAt (VPt S'.ns) H' d T → Bst (rkS rows) (OKn rows D cut sws e Ts) T → Q (.ref d) H'
theorem OLeaf_mem {rows : List Row} {D : RdD} {cut : Int} {s : Nat} {x : Cp} : OLeaf rows D cut s x ↔ ∃ z ∈ leafs rows, s = D.stp z [] ∧ x = (cut, [z]) := by
  unfold OLeaf leafs
  constructor
  · rintro ⟨q, hq, h0, h1, h2⟩
    exact ⟨q.1, List.mem_map.mpr ⟨q, List.mem_filter.mpr ⟨hq, by unfold lfB; rw [h0]; rfl⟩, rfl⟩, h1, h2⟩
  · rintro ⟨z, hz, h1, h2⟩
    obtain ⟨q, hq, rfl⟩ := List.mem_map.mp hz
    obtain ⟨a, b⟩ := List.mem_filter.mp hq
    exact ⟨q, a, of_decide_eq_true b, h1, h2⟩
abbrev N_Changer_table_above : List Str := ["self", "kind", "below", "best", "leaf", "row", "chosen", "nodes", "total", "size", "other", "cost", "table", "state", "_", "node", "found"]
theorem sc_Changer_table_above : FnScope N_Changer_table_above ["self", "kind", "below"] (defScope s_Changer_table_above) := ⟨rfl, rfl, rfl, by decide +kernel, rfl, by decide +kernel, by decide +kernel⟩
section
variable {P : Program} {w : World} {K : PySem.W.Frag} {mg : Str → Option Value} {base : Heap} {C CP CR CC CF : Addr}
theorem body_tab (T : Br mg) (BB : BedT K C) (BP : PrT K CP) (B : ChT K CC) (BF : ForT K CF) (c_leaves : LeavOk P w K mg base C) (c_rows_from : DefOk P w K mg base CX0 1 "rows_from" spWays52) (c_offer : OffOk P w K mg base CR CC CF) (c_node : NodOk P w K mg base CF) {f0 : Addr} {cdv : Value} {A' : Around} {outer : List Env} {s' : Shared} {H : Hp} {vs : List V} {Q : VK} {E : XK} (hr : Room 4 (A'.deeper (envOfC "Changer.table_above" (defScope s_Changer_table_above) s'.heap.objs.size f0 cdv))) (h : spTab52 P w C CP CR CC CF vs H Q E) :
    ∃ t, PSs (cxOf CX0 P w K mg base N_Changer_table_above "Changer.table_above" (defScope s_Changer_table_above) f0 cdv A' outer s' H E).nox (defBody s_Changer_table_above) t ∧ t { nx := fun _ H' => Q .non H', rt := Q } (start N_Changer_table_above vs) H := by
  obtain ⟨fL, M_leaves, F_leaves⟩ := c_leaves
  obtain ⟨fO, M_offer, F_offer⟩ := c_offer
  obtain ⟨fN, M_node_for, F_node_for⟩ := c_node
  have b_sum := T.b_sum
  obtain ⟨s, bl, c, rd, rk, f, ds, cut, e, rows, D, sws, F, S, Ts, ns, rfl, hC, R, hRd, Ok, hPr, W, l6, he, hbl, hDs, hlw, hTs, l3000, l4m, key⟩ := h
  have hu := hu_of hr
  obtain ⟨dx, ho⟩ := hC.o
  obtain ⟨dp, b, qq, dt, uu, dd, hp, hBed, _, _, hTn⟩ := id hPr
  obtain ⟨bx, br, bk, bw, brk, bts, hb1, _⟩ := id hBed
  refine ⟨_, (pss_cons (ps_set (i := 3) sc_Changer_table_above.nd rfl (Or.inl rfl) pe_dnewK)
    (pss_cons (ps_for PassesOwn.never rfl (pi_tup (pe_methR0 (pe_fld (pe_fld (pv 0) rfl) rfl) BB.cl M_leaves F_leaves (hr.mono (by decide)) pass0)) (pg_name (i := 4) sc_Changer_table_above.nd rfl (Or.inl rfl))
      (pss_one (ps_expr (pe_methR (pv 0) B.cl M_offer F_offer (hr.mono (by decide)) pass0 (pa_cons (pv 3) (pa_cons (pe_tup (pa_cons (pe_fld (pe_fld (pv 0) rfl) rfl) (pa_cons pe_int (pa_cons (pv 4) (pa_cons (pe_tup pa_nil) pa_nil))))) (pa_cons (pe_tup pa_nil) pa_nil)))))))
    (pss_cons (ps_for PassesOwn.never rfl (pi_list (pe_d c_rows_from (hr.mono (by decide)) pass0 (pa_cons (pe_lc (own := [("table", 12)]) (g := (gName 12)) (tt := tYes) rfl sc_Changer_table_above.nd (pi_list (pv 2)) (blkOk_by (N := N_Changer_table_above) (sc := defScope s_Changer_table_above) (by decide +kernel)) (fun _ _ _ _ _ => (pg_name (i := 12) sc_Changer_table_above.nd rfl (Or.inl rfl))) (fun _ _ _ _ _ => pts_nil) (fun _ _ _ _ _ => (pe_callTy (call_listD rfl) (by rfl) T.b_list (by decide +kernel) (pa_cons (pv 12) pa_nil)))) pa_nil))) (pg_name (i := 5) sc_Changer_table_above.nd rfl (Or.inl rfl))
      (pss_cons (ps_setLc (i := 6) (own := [("table", 12), ("state", 13)]) (g := (gTup K 2 (gCons (gName 12) (gCons (gName 13) gNil)))) (tt := tYes) rfl sc_Changer_table_above.nd rfl rfl (sw_true rfl rfl rfl (by decide +kernel)) (pi_zipM (by rfl) T.b_zip (pa_cons (pv 2) (pa_cons (pv 5) pa_nil))) (blkOk_by (N := N_Changer_table_above) (sc := defScope s_Changer_table_above) (by decide +kernel)) (fun _ _ _ _ _ => (pg_tup (by rfl) (pgs_cons (pg_name (i := 12) sc_Changer_table_above.nd rfl (Or.inl rfl)) (pgs_cons (pg_name (i := 13) sc_Changer_table_above.nd rfl (Or.inl rfl)) pgs_nil)))) (fun _ _ _ _ _ => pts_nil) (fun _ _ _ _ _ => (pe_dget hu (pv 12) (pv 13) (fun _ _ => rfl))))
      (pss_cons (ps_set (i := 7) sc_Changer_table_above.nd rfl (Or.inl rfl) (pe_callTy call_tuple_of (by rfl) T.b_tuple (by decide +kernel) (pa_cons (pe_lc (own := [("_", 14), ("node", 15)]) (g := (gTup K 2 (gCons (gName 14) (gCons (gName 15) gNil)))) (tt := tYes) rfl sc_Changer_table_above.nd (pi_list (pv 6)) (blkOk_by (N := N_Changer_table_above) (sc := defScope s_Changer_table_above) (by decide +kernel)) (fun _ _ _ _ _ => (pg_tup (by rfl) (pgs_cons (pg_name (i := 14) sc_Changer_table_above.nd rfl (Or.inl rfl)) (pgs_cons (pg_name (i := 15) sc_Changer_table_above.nd rfl (Or.inl rfl)) pgs_nil)))) (fun _ _ _ _ _ => pts_nil) (fun _ _ _ _ _ => (pv 15))) pa_nil)))
      (pss_cons (ps_set (i := 8) sc_Changer_table_above.nd rfl (Or.inl rfl) (pe_callB (cr_sum rfl) (by rfl) b_sum (by decide +kernel) (pa_cons (pe_lc (own := [("cost", 11), ("_", 14)]) (g := (gTup K 2 (gCons (gName 11) (gCons (gName 14) gNil)))) (tt := tYes) rfl sc_Changer_table_above.nd (pi_list (pv 6)) (blkOk_by (N := N_Changer_table_above) (sc := defScope s_Changer_table_above) (by decide +kernel)) (fun _ _ _ _ _ => (pg_tup (by rfl) (pgs_cons (pg_name (i := 11) sc_Changer_table_above.nd rfl (Or.inl rfl)) (pgs_cons (pg_name (i := 14) sc_Changer_table_above.nd rfl (Or.inl rfl)) pgs_nil)))) (fun _ _ _ _ _ => pts_nil) (fun _ _ _ _ _ => (pv 11))) pa_nil)))
      (pss_cons (ps_set (i := 9) sc_Changer_table_above.nd rfl (Or.inl rfl) (pe_op op_add pe_int (pe_callB (cr_sum rfl) (by rfl) b_sum (by decide +kernel) (pa_cons (pe_lc (own := [("node", 15)]) (g := (gName 15)) (tt := tYes) rfl sc_Changer_table_above.nd (pi_tup (pv 7)) (blkOk_by (N := N_Changer_table_above) (sc := defScope s_Changer_table_above) (by decide +kernel)) (fun _ _ _ _ _ => (pg_name (i := 15) sc_Changer_table_above.nd rfl (Or.inl rfl))) (fun _ _ _ _ _ => pts_nil) (fun _ _ _ _ _ => (pe_ix (show IxR _ (rIxL K) from ix_list) (show PE _ _ (tFld K _ _) from pe_fld (show PE _ _ (tFld K _ _) from pe_fld (pv 0) rfl) rfl) (pv 15) (fun _ _ => rfl)))) pa_nil))))
      (pss_one (ps_lock (ps_for PassesOwn.never rfl (pi_items (pe_dget hu (pe_fld (pe_fld (pv 0) rfl) rfl) (pv 1) (fun _ _ => rfl))) (pg_tup (by rfl) (pgs_cons (pg_name (i := 10) sc_Changer_table_above.nd rfl (Or.inl rfl)) (pgs_cons (pg_name (i := 11) sc_Changer_table_above.nd rfl (Or.inl rfl)) pgs_nil)))
        (pss_one (ps_expr (pe_methR (pv 0) B.cl M_offer F_offer (hr.mono (by decide)) pass0 (pa_cons (pv 3) (pa_cons (pe_tup (pa_cons (pe_op op_add (pv 8) (pv 11)) (pa_cons (pv 9) (pa_cons (pv 10) (pa_cons (pv 7) pa_nil))))) (pa_cons (pv 5) pa_nil))))))))))))))
    (pss_one (ps_ret (pe_dc (own := [("state", 13), ("found", 16)]) (g := (gTup K 2 (gCons (gName 13) (gCons (gName 16) gNil)))) (tt := tYes) rfl sc_Changer_table_above.nd (pi_items (pe_lockV (pv 3))) (blkOk_by (N := N_Changer_table_above) (sc := defScope s_Changer_table_above) (by decide +kernel)) (fun _ _ _ _ _ => (pg_tup (by rfl) (pgs_cons (pg_name (i := 13) sc_Changer_table_above.nd rfl (Or.inl rfl)) (pgs_cons (pg_name (i := 16) sc_Changer_table_above.nd rfl (Or.inl rfl)) pgs_nil)))) (fun _ _ _ _ _ => pts_nil) (fun _ _ _ _ _ => (pv 13)) (fun _ _ _ _ _ => (pe_tup (pa_cons (pe_ix (show IxR _ (rIxT K) from ix_tup) (pv 16) pe_int (fun _ _ => rfl)) (pa_cons (pe_methR (show PE _ _ (tFld K _ _) from pe_fld (pv 0) rfl) BF.cl M_node_for F_node_for (hr.mono (by decide)) pass0 (pa_cons (pe_ix (show IxR _ (rIxT K) from ix_tup) (pv 16) pe_int (fun _ _ => rfl)) (pa_cons (pe_ix (show IxR _ (rIxT K) from ix_tup) (pv 16) pe_int (fun _ _ => rfl)) pa_nil))) pa_nil)))))))))), ?_⟩
  intro d hd
  have s1 := (Same.refl H).upd_new (o := .dK []) hd
  have d1 : DtAt (VBs rows S.ns) (upd H d (.dK [])) d (fun _ => none) := .nil upd_same
  generalize upd H d (.dK []) = H1 at s1 d1
  refine ⟨_, rfl, s, CC, dx, _, _, rfl, s1 _ _ ho, B.cl, B.nP, ch_prices _ _ _ _, c, CP, dp, _, _, rfl, s1 _ _ hp, BP.cl, BP.nB, prl_bed _ _ _ _, b, bx, _, rfl, s1 _ _ hb1, lk_leaves _ _ _ _, b, rows, rfl, hBed.same s1, R, fun H2 lt s2 hlt => ⟨lt, rfl, ⟨_, SqT.of hlt⟩, ?_⟩⟩
  have s12 := s1.trans s2
  have d2 := d1.sm s2
  refine for_tup (xs := sV (leafs rows)) (fun i σ H' => ∃ (x4 : Option V) (T : Tb), σ = [some (.ref s), some (.str e), some (.ref bl), some (.ref d), x4, none, none, none, none, none, none, none, none, none, none, none, none] ∧ Same H H' ∧ H' lt = some (.tup (sV (leafs rows))) ∧ DtAt (VBs rows S.ns) H' d T ∧ Bst (rkS rows) (fun s x => ∃ z ∈ (leafs rows).take i, s = D.stp z [] ∧ x = (cut, [z])) T)
    ⟨none, _, rfl, s12, hlt, d2, (Bst.nil _).or fun s x => ⟨fun h => h.elim, fun ⟨z, hz, _⟩ => by rw [List.take_zero] at hz; cases hz⟩⟩ (fun i σ H' _ ⟨_, _, _, _, h, _⟩ => SqT.of h) ?_ ?_
  · rintro i v σ H3 hv ⟨x4, T3, rfl, s3, lt3, d3, B3⟩
    have hil : i < (leafs rows).length := by rw [← sV_len (leafs rows)]; exact (List.getElem?_eq_some_iff.mp hv).1
    have hz := List.getElem?_eq_getElem hil
    have hzm := List.getElem_mem hil
    rw [sV_get hz] at hv
    injection hv with hv
    subst hv
    generalize (leafs rows)[i] = z at hz hzm
    obtain ⟨q, hq, rfl⟩ := List.mem_map.mp hzm
    obtain ⟨hq1, hq2⟩ := List.mem_filter.mp hq
    have q0 : q.2 = 0 := of_decide_eq_true hq2
    have w0 : wR rows q.1 = 0 := by rw [wR_of R hq1, q0]; rfl
    have hqn : HasN rows q.1 := ⟨q, hq1, rfl⟩
    refine ⟨_, rfl, s, dx, _, rfl, s3 _ _ ho, lk_chm _ _ _ _ (x := "offer") (by decide +kernel), _, rfl, _, rfl, s, CC, dx, _, _, rfl, s3 _ _ ho, B.cl, B.nP, ch_prices _ _ _ _, c, CP, dp, _, _, rfl, s3 _ _ hp, BP.cl, BP.nC, prl_cut _ _ _ _, _, rfl, le_line (show 0 ≤ 10000000 by decide), fun u hu0 => ?_⟩
    have s4 := (Same.refl H3).upd_new (o := .tup []) hu0
    have u4 : (upd H3 u (.tup [])) u = some (.tup (nI [])) := upd_same
    generalize upd H3 u (.tup []) = H4 at s4 u4
    refine ⟨le_line (show 4 ≤ 10000000 by decide), fun t ht => ?_⟩
    have s5 := s4.upd_new (o := .tup [.int cut, .int 1, .str q.1, .ref u]) ht
    have t5 : (upd H4 t (.tup [.int cut, .int 1, .str q.1, .ref u])) t = some (.tup [.int cut, .int 1, .str q.1, .ref u]) := upd_same
    have u5 : (upd H4 t (.tup [.int cut, .int 1, .str q.1, .ref u])) u = some (.tup (nI [])) := by rw [upd_ne (ne_of_none u4 ht)]; exact u4
    generalize upd H4 t (.tup [.int cut, .int 1, .str q.1, .ref u]) = H5 at s5 t5 u5
    refine ⟨le_line (show 0 ≤ 10000000 by decide), fun v hv0 => ?_⟩
    have s6 := s5.upd_new (o := .tup []) hv0
    have s56 := (Same.refl H5).upd_new (o := .tup []) hv0
    have v6 : (upd H5 v (.tup [])) v = some (.tup (nI [])) := upd_same
    generalize upd H5 v (.tup []) = H6 at s6 s56 v6
    have s06 := s3.trans s6
    refine ⟨s, d, t, v, c, rd, rk, f, rows, D, F, S, (cut, [q.1]), q.1, [], _, T3, rfl, hC.same s06, R, hRd.same s06, Ok, ⟨q.1, [], u, s56 _ _ t5, s56 _ _ u5, fun c h => (nomatch h), w0.symm, hqn, rfl⟩, v6, ⟨[], rfl⟩, w0.symm, fun z h => (nomatch h), d3.sm s6, B3, fun H7 T7 k7 d7 B7 => ?_⟩
    obtain ⟨es, hes, _⟩ := id (d3.sm s6)
    refine ⟨_, T7, rfl, Same.kpd s06 hd k7, k7.tupd hes _ _ (s6 _ _ lt3), d7, B7.or fun s x => ?_⟩
    rw [List.take_add_one, hz]
    constructor
    · rintro (⟨z, h1, h2⟩ | ⟨rfl, rfl⟩)
      · exact ⟨z, List.mem_append_left _ h1, h2⟩
      · exact ⟨q.1, List.mem_append_right _ List.mem_cons_self, rfl, rfl⟩
    · rintro ⟨z, h1, h2⟩
      rcases List.mem_append.mp h1 with g | g
      · exact .inl ⟨z, g, h2⟩
      · have eg : z = q.1 := List.mem_singleton.mp g
        rw [eg] at h2
        exact .inr h2
  · rintro σ H3 ⟨x4, T3, rfl, s3, lt3, d3, B3⟩
    rw [sV_len, List.take_length] at B3
    have B3 := B3.or fun s x => (OLeaf_mem (rows := rows) (D := D) (cut := cut) (s := s) (x := x)).symm
    have hDs3 := hDs.smP s3
    obtain ⟨ls, g1, g2, g3, g4⟩ := hDs3.lists
    have llT : ls.length = Ts.length := g1.trans hDs.1
    have w3 : Ts.length ≤ 3 := by rw [hlw]; exact wR_le R _
    have hwp : ∀ {ss : List Nat}, ss ∈ ways ls ↔ ∃ xs, Pick Ts ss xs := ways_pick llT g3
    refine ⟨_, rfl, bl, rfl, ⟨_, SqL.of (s3 _ _ hbl)⟩, fun D' hD' => lc_it (walk_list (xs := ds.map V.ref)) (fun j H' => Same H3 H' ∧ ∃ bs : List Addr, H' D' = some (.lst (bs.map V.ref)) ∧ LsAt H' bs (ls.take j)) ⟨(Same.refl H3).upd_new hD', [], upd_same, rfl, fun i b l h => by simp at h⟩ (fun j H' _ ⟨q, _⟩ => SqL.of (q _ _ (s3 _ _ hbl))) ?_ ?_⟩
    · rintro j v H4 H5 hj ⟨s4, bs, D4, L4⟩ ⟨rfl, hv⟩
      obtain ⟨dd, hdd, rfl⟩ := get_map_r hv
      have hjl : j < ls.length := by rw [g1]; exact (List.getElem?_eq_some_iff.mp hdd).1
      have hl := List.getElem?_eq_getElem hjl
      generalize ls[j] = l at hl
      obtain ⟨kvs, hk, ek⟩ := g2 j dd l hdd hl
      refine ⟨rfl, _, rfl, dd, kvs, rfl, .of (s4 _ _ hk), fun p hp => ?_⟩
      rw [ek]
      have lb : bs.length = j := by rw [L4.1, List.length_take]; omega
      refine ⟨_, by rw [upd_ne (ne_of_none D4 hp)]; exact D4, by rw [List.length_map, lb]; exact lt_line (by omega), (s4.upd_new hp).upd_own hD', bs ++ [p], by rw [upd_same, List.map_append]; rfl, ?_⟩
      have npD : p ≠ D' := fun z => by rw [z, D4] at hp; cases hp
      refine ⟨by rw [List.length_append, L4.1, List.length_take, List.length_take]; show _ + 1 = _; omega, fun m b l' hb hl' => ?_⟩
      have hm' := (List.getElem?_eq_some_iff.mp hb).1
      rw [List.length_append, lb] at hm'
      have : ([p] : List Addr).length = 1 := rfl
      by_cases c : m < j
      · rw [List.getElem?_append_left (by omega)] at hb
        rw [List.getElem?_take_of_lt (by omega)] at hl'
        have hx := L4.2 m b l' hb (by rw [List.getElem?_take_of_lt c]; exact hl')
        have nbp : b ≠ p := fun z => by rw [z, hp] at hx; cases hx
        have nbD : b ≠ D' := fun z => by
          rw [z, D4] at hx
          injection hx with hx
          injection hx with hx
          cases bs with
          | nil => simp at lb; omega
          | cons b0 bs =>
            cases l' with
            | nil => cases hx
            | cons y l' =>
              injection hx with h1 _
              cases h1
        rw [upd_ne nbD, upd_ne nbp]
        exact hx
      · have em : m = j := by omega
        subst em
        rw [List.getElem?_append_right (by omega), lb, Nat.sub_self] at hb
        rw [List.getElem?_take_of_lt (by omega), hl] at hl'
        cases hb
        cases hl'
        rw [upd_ne npD, upd_same]
    rintro H4 ⟨s4, bs, D4, L4⟩
    have lds : (ds.map V.ref).length = ls.length := by rw [List.length_map, g1]
    rw [lds, List.take_length] at L4
    refine ⟨D', bs, ls, rfl, D4, L4, by omega, g4, fun H5 L s5 nL WL => ?_⟩
    obtain ⟨us, hL, PL⟩ := WL
    have s35 := s4.trans s5
    have d5 := d3.sm s35
    have lus : (us.map V.ref).length = (ways ls).length := by rw [List.length_map, PL.1]
    refine ⟨L, rfl, ⟨_, SqL.of hL⟩, for_list (xs := us.map V.ref) (fun m σ H' => ∃ (x5 x6 x7 x8 x9 x10 x11 x12 x13 x14 x15 x16 : Option V) (T : Tb), σ = [some (.ref s), some (.str e), some (.ref bl), some (.ref d), x4, x5, x6, x7, x8, x9, x10, x11, x12, x13, x14, x15, x16] ∧ Same H H' ∧ DtAt (VBs rows S.ns) H' d T ∧ H' L = some (.lst (us.map V.ref)) ∧ PlAt nI H' us (ways ls) ∧ Bst (rkS rows) (fun s x => OLeaf rows D cut s x ∨ OWs D sws e Ts ((ways ls).take m) s x) T)
      ⟨none, none, none, none, none, none, none, none, none, none, none, none, T3, rfl, s3.trans s35, d5, hL, PL, B3.or fun s x => ⟨fun h => .inl h, fun h => h.elim id fun ⟨q, hq, _⟩ => by rw [List.take_zero] at hq; cases hq⟩⟩ (fun i σ H' _ ⟨_, _, _, _, _, _, _, _, _, _, _, _, _, _, _, _, h, _⟩ => SqL.of h) ?_ ?_⟩
    · rintro m v σ H6 hv ⟨x5, x6, x7, x8, x9, x10, x11, x12, x13, x14, x15, x16, T6, rfl, s6, d6, L6, P6, B6⟩
      obtain ⟨u, hu0, rfl⟩ := get_map_r hv
      have hml : m < (ways ls).length := by rw [← P6.1]; exact (List.getElem?_eq_some_iff.mp hu0).1
      have hss := List.getElem?_eq_getElem hml
      have hmem2 := List.getElem_mem hml
      have hu6 := P6.2 m u (ways ls)[m] hu0 hss
      generalize (ways ls)[m] = ss at hss hmem2 hu6
      obtain ⟨xs, hpk⟩ := hwp.mp hmem2
      obtain ⟨p1, p2, p3, p4⟩ := pick_ok hpk hTs
      obtain ⟨l1, l2⟩ := hpk.len
      have hbl6 := s6 _ _ hbl
      refine ⟨_, rfl, _, rfl, bl, u, _, _, rfl, SqL.of hbl6, SqT.of hu6, fun C1 hC1 => lc_it (walk_zipM (xs := ds.map V.ref) (ys := nI ss) (n := Ts.length) (by rw [List.length_map, hDs.1]) (by rw [nI_len, l1])) (fun j H' => Same H6 H' ∧ ∃ vs : List Addr, H' C1 = some (.lst (vs.map V.ref)) ∧ vs.length = j ∧ ∀ (i : Nat) (v : Addr) (x : Cp), vs[i]? = some v → xs[i]? = some x → VPt S.ns H' v x) ⟨(Same.refl H6).upd_new hC1, [], upd_same, rfl, fun i v x h => by simp at h⟩ (fun j H' _ ⟨q, _⟩ => ⟨SqL.of (q _ _ hbl6), SqT.of (q _ _ hu6)⟩) ?_ ?_⟩
      · rintro j v H7' H7 hj ⟨s7, vs, C7, lv7, V7⟩ ⟨P1, v1, v2, rfl, hP1, rfl, e1, e2⟩
        have hjT : j < Ts.length := hj
        have hT0 := List.getElem?_eq_getElem hjT
        have hs := List.getElem?_eq_getElem (show j < ss.length by omega)
        have hdd := List.getElem?_eq_getElem (show j < ds.length by rw [hDs.1]; exact hjT)
        obtain ⟨x, hx, hxs⟩ := hpk.at hT0 hs
        have e1' : (ds.map V.ref)[j]? = some v1 := e1
        have e2' : (nI ss)[j]? = some v2 := e2
        rw [List.getElem?_map, hdd] at e1'
        rw [nI_at hs] at e2'
        cases e1'
        cases e2'
        have s67 := (Same.refl H7').upd_new (o := .tup [.ref (ds[j]'(by rw [hDs.1]; exact hjT)), .int ((ss[j]'(by omega) : Nat) : Int)]) hP1
        have f7 : (upd H7' P1 (.tup [.ref (ds[j]'(by rw [hDs.1]; exact hjT)), .int ((ss[j]'(by omega) : Nat) : Int)])) P1 = some (.tup [.ref (ds[j]'(by rw [hDs.1]; exact hjT)), .int ((ss[j]'(by omega) : Nat) : Int)]) := upd_same
        generalize upd H7' P1 (.tup [.ref (ds[j]'(by rw [hDs.1]; exact hjT)), .int ((ss[j]'(by omega) : Nat) : Int)]) = H8 at s67 f7
        have hdt := (hDs.smP (s6.trans (s7.trans s67))).2 j _ _ hdd hT0
        obtain ⟨v, gv, hv⟩ := hdt.get hxs
        generalize ds[j]'(by rw [hDs.1]; exact hjT) = d0 at hdd gv f7 hdt
        generalize ss[j]'(by omega) = z at hs gv f7
        have C8 := s67 _ _ C7
        refine ⟨P1, _, rfl, SqT.of f7, rfl, _, _, rfl, _, _, rfl, rfl, rfl, ?_⟩
        refine ⟨_, rfl, _, rfl, d0, _, rfl, gv, _, C8, by rw [List.length_map, lv7]; exact lt_line (by omega), (s7.trans s67).upd_own hC1, vs ++ [v], by rw [upd_same, List.map_append]; rfl, by rw [List.length_append, lv7]; rfl, fun i v' x' h1 h2 => ?_⟩
        have kt : ∀ a y, VPt S.ns H8 a y → VPt S.ns (upd H8 C1 (.lst (vs.map V.ref ++ [V.ref v]))) a y := fun a y ⟨n, q1, q2⟩ => ⟨n, by rw [upd_ne (ne_of q1 C8 (fun e => nomatch e))]; exact q1, q2⟩
        by_cases ci : i < vs.length
        · rw [List.getElem?_append_left ci] at h1
          exact kt _ _ ((V7 i v' x' h1 h2).same s67)
        · have hl := (List.getElem?_eq_some_iff.mp h1).1
          rw [List.length_append] at hl
          have : ([v] : List Addr).length = 1 := rfl
          have ei : i = vs.length := by omega
          subst ei
          rw [List.getElem?_append_right (Nat.le_refl _), Nat.sub_self] at h1
          cases h1
          rw [lv7, hx] at h2
          cases h2
          exact kt _ _ hv
      rintro H7 ⟨s7, vs, C7, lv7, V7⟩
      obtain ⟨is, lis, ilt, icat, his⟩ := nodes_of (by omega : vs.length = xs.length) V7
      have lvx : (vs.map V.ref).length = xs.length := by rw [List.length_map]; omega
      -- the nodes
      refine ⟨_, rfl, C1, rfl, ⟨_, SqL.of C7⟩, fun D2 hD2 => lc_it (walk_list (xs := vs.map V.ref)) (fun j H' => Same H7 H' ∧ H' D2 = some (.lst (nI (is.take j)))) ⟨(Same.refl H7).upd_new hD2, upd_same⟩ (fun j H' _ ⟨q, _⟩ => SqL.of (q _ _ C7)) ?_ ?_⟩
      · rintro j v H8' H8 hj ⟨s8, D8⟩ ⟨rfl, hv⟩
        obtain ⟨v, hv0, rfl⟩ := get_map_r hv
        have hjx : j < xs.length := by rw [← lvx]; exact hj
        obtain ⟨n, n1, n2, n3⟩ := his j v xs[j] hv0 (List.getElem?_eq_getElem hjx)
        refine ⟨v, _, rfl, SqT.of (s8 _ _ n2), rfl, _, _, rfl, _, _, rfl, rfl, rfl, ?_⟩
        refine ⟨_, rfl, _, D8, by rw [nI_len, List.length_take]; exact lt_line (by omega), s8.upd_own hD2, ?_⟩
        rw [upd_same, nI_snoc, List.take_add_one, n1]
        rfl
      rintro H8 ⟨s8, D8⟩
      rw [lvx, ← lis, List.take_length] at D8
      refine ⟨D2, _, rfl, .inl ⟨SqL.of D8, fun nd hnd => ?_⟩⟩
      have s9 := s8.upd_new (o := .tup (nI is)) hnd
      have n9 : (upd H8 nd (.tup (nI is))) nd = some (.tup (nI is)) := upd_same
      generalize upd H8 nd (.tup (nI is)) = H9 at s9 n9
      -- the total
      refine ⟨_, rfl, C1, rfl, ⟨_, SqL.of (s9 _ _ C7)⟩, fun D3 hD3 => lc_it (walk_list (xs := vs.map V.ref)) (fun j H' => Same H9 H' ∧ H' D3 = some (.lst (((xs.take j).map (·.1)).map V.int))) ⟨(Same.refl H9).upd_new hD3, upd_same⟩ (fun j H' _ ⟨q, _⟩ => SqL.of (q _ _ (s9 _ _ C7))) ?_ ?_⟩
      · rintro j v H10' H10 hj ⟨s10, D10⟩ ⟨rfl, hv⟩
        obtain ⟨v, hv0, rfl⟩ := get_map_r hv
        have hjx : j < xs.length := by rw [← lvx]; exact hj
        obtain ⟨n, n1, n2, n3⟩ := his j v xs[j] hv0 (List.getElem?_eq_getElem hjx)
        refine ⟨v, _, rfl, SqT.of (s10 _ _ (s9 _ _ n2)), rfl, _, _, rfl, _, _, rfl, rfl, rfl, ?_⟩
        refine ⟨_, rfl, _, D10, by rw [List.length_map, List.length_map, List.length_take]; exact lt_line (by omega), s10.upd_own hD3, ?_⟩
        rw [upd_same, List.take_add_one, List.getElem?_eq_getElem hjx, List.map_append, List.map_append]
        rfl
      rintro H10 ⟨s10, D10⟩
      rw [lvx, List.take_length] at D10
      refine ⟨D3, _, rfl, SqL.of D10, ?_⟩
      have n10 := s10 _ _ n9
      have s710 := s9.trans s10
      have s610 := s7.trans s710
      have s010 := s6.trans s610
      obtain ⟨dxf, hof⟩ := hC.f.o
      -- the size
      refine ⟨_, rfl, nd, rfl, ⟨_, SqT.of n10⟩, fun D4' hD4 => lc_it (walk_tup (xs := nI is)) (fun j H' => Same H10 H' ∧ H' D4' = some (.lst (((is.take j).map fun i => ((S.zs.getD i 0 : Nat) : Int)).map V.int))) ⟨(Same.refl H10).upd_new hD4, upd_same⟩ (fun j H' _ ⟨q, _⟩ => SqT.of (q _ _ n10)) ?_ ?_⟩
      · rintro j v H11' H11 hj ⟨s11, D11⟩ ⟨rfl, hv⟩
        rw [nI_len] at hj
        have hi := List.getElem?_eq_getElem hj
        have hlt := ilt _ (List.getElem_mem hj)
        rw [nI_at hi] at hv
        injection hv with hv
        subst hv
        generalize is[j] = i0 at hi hlt
        have hzi : (nI S.zs)[i0]? = some (.int ((S.zs.getD i0 0 : Nat) : Int)) := by
          have := List.getElem?_eq_getElem (show i0 < S.zs.length by rw [hC.ok.lz]; exact hlt)
          rw [nI_at this, List.getD_eq_getElem?_getD, this]
          rfl
        refine ⟨rfl, _, rfl, s, CC, dx, _, _, rfl, (s010.trans s11) _ _ ho, B.cl, B.nF, ch_forest _ _ _ _, f, CF, dxf, _, _, rfl, (s010.trans s11) _ _ hof, BF.cl, BF.nS, lk_siz F, _, rfl, F.z, _, _, _, rfl, rfl, SqL.of ((s010.trans s11) _ _ hC.f.z), at_ofG (j := i0) rfl hzi, ?_⟩
        refine ⟨_, D11, by rw [List.length_map, List.length_map, List.length_take]; exact lt_line (by omega), s11.upd_own hD4, ?_⟩
        rw [upd_same, List.take_add_one, hi, List.map_append, List.map_append]
        rfl
      rintro H11 ⟨s11, D11⟩
      rw [nI_len, List.take_length] at D11
      refine ⟨D4', _, rfl, SqL.of D11, _, _, rfl, rfl, ?_⟩
      have esz : (1 : Int) + ((is.map fun i => ((S.zs.getD i 0 : Nat) : Int))).sum = ((1 + (catP xs).length : Nat) : Int) := by
        rw [nI_sum, ← icat]
        unfold catS
        rw [List.length_flatten, List.map_map]
        have : is.map (fun c => S.zs.getD c 0) = is.map (List.length ∘ trS S.ns) := List.map_congr_left fun c hc => hC.ok.Z c (ilt c hc)
        rw [this]
        omega
      have s011 := s010.trans s11
      obtain ⟨qe, hqe, eqe⟩ := id he
      obtain ⟨ke, hke⟩ := List.mem_iff_getElem?.mp (List.mem_map.mpr ⟨qe, hqe, eqe⟩ : e ∈ rows.map (·.1))
      have hkl := (List.getElem?_eq_some_iff.mp hke).1
      have hda := List.getElem?_eq_getElem (show ke < dd.length by rw [hTn.len]; exact hkl)
      have hdm := List.getElem_mem (show ke < dd.length by rw [hTn.len]; exact hkl)
      generalize dd[ke]'(by rw [hTn.len]; exact hkl) = a at hda hdm
      obtain ⟨kv, hkv, ⟨_, hok⟩, hval⟩ := hTn.row ke e a hke hda
      have nda : d ≠ a := fun z => by rw [z, hkv] at hd; cases hd
      have ndt : dt ≠ a := fun z => hTn.nin (z ▸ hdm)
      have a11 := s011 _ _ hkv
      refine ⟨a, .dK kv, a11, trivial, fun od => ?_⟩
      have hl0 : (upd H a (.frz od (.dK kv))) d = none := by rw [upd_ne nda]; exact hd
      have sl : Same (upd H a (.frz od (.dK kv))) (upd H11 a (.frz od (.dK kv))) := fun x o h => by
        by_cases c : x = a
        · rw [c, upd_same] at h ⊢
          exact h
        · rw [upd_ne c] at h ⊢
          exact s011 _ _ h
      have hCl := hC.lock (od := od) hkv
      have hRl := hRd.lock (od := od) hkv ⟨e, 0, by rw [hval e]; unfold swp; rw [if_pos rfl]; rfl⟩
      have fl : (upd H a (.frz od (.dK kv))) a = some (.frz od (.dK kv)) := upd_same
      have hol : (upd H a (.frz od (.dK kv))) s = some (.ins CC dx (chF c rd rk f)) := by rw [upd_ne (ne_of ho hkv (fun e => nomatch e))]; exact ho
      have hpl : (upd H a (.frz od (.dK kv))) c = some (.ins CP dp (prF b cut qq dt)) := by rw [upd_ne (ne_of hp hkv (fun e => nomatch e))]; exact hp
      have htl : (upd H a (.frz od (.dK kv))) dt = some (.dK (tnL (rows.map (·.1)) dd)) := by rw [upd_ne ndt]; exact hTn.at_
      have unlock : ∀ {H' : Hp}, Same (upd H a (.frz od (.dK kv))) H' → Same H (upd H' a (.dK kv)) := fun {H'} h x o hx => by
        by_cases c : x = a
        · rw [c, hkv] at hx
          rw [c, upd_same]
          exact hx
        · rw [upd_ne c]
          exact h x o (by rw [upd_ne c]; exact hx)
      generalize upd H a (.frz od (.dK kv)) = Hl at hl0 sl hCl hRl fl hol hpl htl unlock
      have kl : ∀ {x : Addr} {o : HO}, H11 x = some o → (∀ ys, o ≠ .dK ys) → (upd H11 a (.frz od (.dK kv))) x = some o := fun {x} {o} h n => by rw [upd_ne (ne_of h a11 (n _))]; exact h
      have s611 := s610.trans s11
      have d11 := d6.sm s611
      have dl : DtAt (VBs rows S.ns) (upd H11 a (.frz od (.dK kv))) d T6 := d11.keep (upd_ne nda) fun x y h => h.tk fun t ys q => kl q (fun _ e => nomatch e)
      have Ll := kl (s611 _ _ L6) (fun _ e => nomatch e)
      have Pl : PlAt nI (upd H11 a (.frz od (.dK kv))) us (ways ls) := (P6.keep fun t ys h => s611 _ _ h).keep fun t ys h => kl h (fun _ e => nomatch e)
      have nl := kl (s11 _ _ n10) (fun _ e => nomatch e)
      have ul := kl (s611 _ _ hu6) (fun _ e => nomatch e)
      generalize upd H11 a (.frz od (.dK kv)) = H12 at sl dl Ll Pl nl ul
      have gTn : DGet H12 dt (.str e) (some (.ref a)) := by
        have := DGet.k (k := .inr e) (sl _ _ htl)
        rw [tn_val R.nd hke hda] at this
        exact this
      refine ⟨_, rfl, s, CC, dx, _, _, rfl, sl _ _ hol, B.cl, B.nP, ch_prices _ _ _ _, c, CP, dp, _, _, rfl, sl _ _ hpl, BP.cl, BP.nT, prl_turns _ _ _ _, _, rfl, dt, _, rfl, gTn, a, od, kv, rfl, sl _ _ fl, for_it (walk_items (kvs := kv)) (fun j σ H' => ∃ (y10 y11 : Option V) (T : Tb), σ = [some (.ref s), some (.str e), some (.ref bl), some (.ref d), x4, some (.ref u), some (.ref C1), some (.ref nd), some (.int (xs.map (·.1)).sum), some (.int (1 + (is.map fun i => ((S.zs.getD i 0 : Nat) : Int)).sum)), y10, y11, x12, x13, x14, x15, x16] ∧ Same Hl H' ∧ DtAt (VBs rows S.ns) H' d T ∧ H' L = some (.lst (us.map V.ref)) ∧ PlAt nI H' us (ways ls) ∧ H' nd = some (.tup (nI is)) ∧ H' u = some (.tup (nI ss)) ∧ Bst (rkS rows) (fun s x => (OLeaf rows D cut s x ∨ OWs D sws e Ts ((ways ls).take m) s x) ∨ ∃ y k, ((.inr y : Key), V.int k) ∈ kv.take j ∧ s = D.stp y ss ∧ x = (k + sumC xs, y :: catP xs)) T)
        ⟨x10, x11, T6, rfl, sl, dl, Ll, Pl, nl, ul, B6.or fun s x => ⟨fun h => .inl h, fun h => h.elim id fun ⟨y, k, hq, _⟩ => by rw [List.take_zero] at hq; cases hq⟩⟩ (fun j σ H' _ ⟨_, _, _, _, q, _⟩ => q _ _ fl) ?_ ?_⟩
      · rintro j v σ Hm' Hm hj ⟨y10, y11, T', rfl, sm, dm, Lm, Pm, nm, um, Bm⟩ ⟨P1, v1, v2, rfl, hP1, rfl, e1, e2⟩
        have hkj := List.getElem?_eq_getElem (show j < kv.length from hj)
        have hkm := List.getElem_mem (show j < kv.length from hj)
        obtain ⟨y, hy⟩ := hok.2 _ hkm
        have e1' : (kv[j]?.map fun q => kV q.1) = some v1 := e1
        have e2' : (kv[j]?.map Prod.snd) = some v2 := e2
        rw [hkj] at e1' e2'
        have hvv : valV kv (.inr y) = some kv[j].2 := by
          rw [← hy]
          exact valV_nd hok.1 hkm
        rw [hval y] at hvv
        cases hsw : swp sws e y with
        | none => rw [hsw] at hvv; cases hvv
        | some k =>
        rw [hsw] at hvv
        have hv2 : kv[j].2 = .int k := by injection hvv with h; exact h.symm
        have e1'' : v1 = .str y := by
          injection e1' with h
          rw [← h]
          show kV kv[j].1 = _
          rw [hy]
          rfl
        have e2'' : v2 = .int k := by
          injection e2' with h
          rw [← h]
          exact hv2
        subst e1'' e2''
        have hkj : kv[j]? = some ((.inr y : Key), V.int k) := by rw [hkj, ← hy, ← hv2]
        have s13 := sm.upd_new (o := .tup [.str y, .int k]) hP1
        have sm13 := (Same.refl Hm').upd_new (o := .tup [.str y, .int k]) hP1
        have f13 : (upd Hm' P1 (.tup [.str y, .int k])) P1 = some (.tup [.str y, .int k]) := upd_same
        generalize upd Hm' P1 (.tup [.str y, .int k]) = H13 at s13 sm13 f13
        have wy := swp_wd W hsw
        have hy' := swp_has W he hsw
        refine ⟨P1, _, rfl, SqT.of f13, rfl, _, _, rfl, _, _, rfl, rfl, ?_⟩
        refine ⟨_, rfl, s, dx, _, rfl, s13 _ _ hol, lk_chm _ _ _ _ (x := "offer") (by decide +kernel), _, rfl, _, rfl, _, rfl, _, _, rfl, rfl, _, rfl, _, rfl, _, rfl, le_line (show 4 ≤ 10000000 by decide), fun t ht => ?_⟩
        have et : (xs.map (·.1)).sum + k = k + sumC xs := Int.add_comm _ _
        refine ⟨_, rfl, ?_⟩
        have s14 : Same H13 (upd H13 t (.tup [.int ((xs.map (·.1)).sum + k), .int (1 + (is.map fun i => ((S.zs.getD i 0 : Nat) : Int)).sum), .str y, .ref nd])) := (Same.refl H13).upd_new ht
        have f14 : (upd H13 t (.tup [.int ((xs.map (·.1)).sum + k), .int (1 + (is.map fun i => ((S.zs.getD i 0 : Nat) : Int)).sum), .str y, .ref nd])) t = some (.tup [.int (k + sumC xs), .int ((1 + (catP xs).length : Nat) : Int), .str y, .ref nd]) := by rw [upd_same, et, esz]
        have sm14 := sm13.trans s14
        have sl14 := s13.trans s14
        refine ⟨s, d, t, u, c, rd, rk, f, rows, D, F, S, (k + sumC xs, y :: catP xs), y, ss, _, T', rfl, hCl.same sl14, R, hRl.same sl14, Ok, ⟨y, is, nd, ?_, sm14 _ _ nm, ilt, by omega, hy', by rw [icat]⟩, sm14 _ _ um, ⟨_, rfl⟩, by omega, p1, dm.sm sm14, Bm, fun H15 T15 k15 d15 B15 => ?_⟩
        · rw [f14]
          show some (HO.tup [_, _, _, _]) = some (HO.tup [_, V.int (((y :: catP xs).length : Nat) : Int), _, _])
          rw [List.length_cons, Nat.add_comm]
        · obtain ⟨es, hes, _⟩ := id (dm.sm sm14)
          have kt := k15.tupd hes
          refine ⟨_, _, T15, rfl, Same.kpd sl14 hl0 k15, d15, k15 _ _ (sm14 _ _ Lm) (ne_of (sm14 _ _ Lm) hes (fun e => nomatch e)), (Pm.keep fun t ys h => sm14 _ _ h).keep kt, kt _ _ (sm14 _ _ nm), kt _ _ (sm14 _ _ um), B15.or fun s x => ?_⟩
          rw [List.take_add_one, hkj]
          constructor
          · rintro ((h | ⟨y1, k1, h1, h2⟩) | ⟨rfl, rfl⟩)
            · exact .inl h
            · exact .inr ⟨y1, k1, List.mem_append_left _ h1, h2⟩
            · exact .inr ⟨y, k, List.mem_append_right _ List.mem_cons_self, rfl, rfl⟩
          · rintro (h | ⟨y1, k1, h1, h2, h3⟩)
            · exact .inl (.inl h)
            · rcases List.mem_append.mp h1 with g | g
              · exact .inl (.inr ⟨y1, k1, g, h2, h3⟩)
              · obtain ⟨g1, g2⟩ := Prod.mk.inj (List.mem_singleton.mp g)
                injection g1 with g1
                injection g2 with g2
                have g1 : y1 = y := g1
                subst g1 g2
                exact .inr ⟨h2, h3⟩
      · rintro σ Hm ⟨y10, y11, T', rfl, sm, dm, Lm, Pm, nm, um, Bm⟩
        have am := sm _ _ fl
        have km : ∀ {x : Addr} {o : HO}, Hm x = some o → (∀ o' u, o ≠ .frz o' u) → (upd Hm a (.dK kv)) x = some o := fun {x} {o} h n => by rw [upd_ne (ne_of h am (n _ _))]; exact h
        rw [List.take_length] at Bm
        refine ⟨am, _, _, _, _, _, _, _, _, _, _, _, _, T', rfl, unlock sm, dm.keep (upd_ne nda) fun x y h => h.tk fun t ys q => km q (fun _ _ e => nomatch e), km Lm (fun _ _ e => nomatch e), Pm.keep fun t ys h => km h (fun _ _ e => nomatch e), Bm.or fun s x => ?_⟩
        rw [List.take_add_one, hss]
        constructor
        · rintro ((h | ⟨ss1, h1, h2⟩) | ⟨y, k, h1, h2, h3⟩)
          · exact .inl h
          · exact .inr ⟨ss1, List.mem_append_left _ h1, h2⟩
          · have hv := valV_nd hok.1 h1
            have hv : valV kv (.inr y) = some (.int k) := hv
            rw [hval y] at hv
            cases hsw : swp sws e y with
            | none => rw [hsw] at hv; cases hv
            | some k' =>
              rw [hsw] at hv
              injection hv with hv
              injection hv with hv
              subst hv
              exact .inr ⟨ss, List.mem_append_right _ List.mem_cons_self, xs, y, k', hpk, hsw, h2, h3⟩
        · rintro (h | ⟨ss1, h1, xs1, y, k, h2, h3, h4, h5⟩)
          · exact .inl (.inl h)
          · rcases List.mem_append.mp h1 with g | g
            · exact .inl (.inr ⟨ss1, g, xs1, y, k, h2, h3, h4, h5⟩)
            · have es : ss1 = ss := List.mem_singleton.mp g
              subst es
              rw [h2.uniq hpk] at h5
              exact .inr ⟨y, k, valV_mem (by rw [hval y, h3]; rfl), h4, h5⟩
    · rintro σ H6 ⟨x5, x6, x7, x8, x9, x10, x11, x12, x13, x14, x15, x16, T6, rfl, s6, d6, L6, P6, B6⟩
      rw [lus, List.take_length] at B6
      have B6 : Bst (rkS rows) (OKn rows D cut sws e Ts) T6 := B6.or fun s x => by
        unfold OKn
        constructor
        · rintro (h | ⟨ss, _, xs, y, k, h1, h2, h3, h4⟩)
          · exact .inl h
          · exact .inr ⟨ss, xs, y, k, h1, h2, h3, h4⟩
        · rintro (h | ⟨ss, xs, y, k, h1, h2, h3, h4⟩)
          · exact .inl h
          · exact .inr ⟨ss, hwp.mpr ⟨xs, h1⟩, xs, y, k, h1, h2, h3, h4⟩
      obtain ⟨es, hes, hnd, h3s, hev, hall⟩ := id d6
      have les : es.length ≤ 3 := by
        have := nd_lt hnd h3s
        rwa [List.length_map] at this
      refine ⟨_, rfl, d, intL es, rfl, hes, fun od => ⟨d, od, intL es, rfl, upd_same, fun D2 hD2 => ?_⟩⟩
      have sz : Same H (upd H6 d (.frz od (.dK (intL es)))) := s6.upd_own hd
      have fz : (upd H6 d (.frz od (.dK (intL es)))) d = some (.frz od (.dK (intL es))) := upd_same
      have vz : ∀ e ∈ es, ∃ x, T6 e.1 = some x ∧ VBs rows S.ns (upd H6 d (.frz od (.dK (intL es)))) e.2 x := fun e he => by
        obtain ⟨x, h1, h2⟩ := hev e he
        exact ⟨x, h1, h2.tk fun t ys q => by rw [upd_ne (ne_of q hes (fun e => nomatch e))]; exact q⟩
      generalize upd H6 d (.frz od (.dK (intL es))) = Hz at sz fz vz hD2 ⊢
      have cz := hC.same sz
      refine dc_it (walk_items (kvs := intL es)) (fun j H' => ∃ (S' : FS) (es' : List (Nat × Addr)), FFr F Hz H' ∧ ChK P w CC CF H' s c rd rk f rows F S' ∧ (∀ i, i < S.ns.length → trS S'.ns i = trS S.ns i) ∧ S.ns.length ≤ S'.ns.length ∧ S'.ns.length ≤ S.ns.length + j ∧ H' D2 = some (.dK (intL es')) ∧ es'.map (·.1) = (es.take j).map (·.1) ∧ ∀ e ∈ es', ∃ x, T6 e.1 = some x ∧ VPt S'.ns H' e.2 x)
        ⟨S, [], FFr.same ((Same.refl Hz).upd_new hD2), cz.same ((Same.refl Hz).upd_new hD2), fun _ _ => rfl, Nat.le_refl _, Nat.le_refl _, upd_same, rfl, fun e h => (nomatch h)⟩ (fun j H' _ ⟨S', es', k7, _⟩ => k7.get cz.f fz (fun _ e => nomatch e) (fun _ e => nomatch e)) ?_ ?_
      · rintro j v H7' H7 hj ⟨S', es', k7, c7, kp, ll1, ll2, D7, ek, ev⟩ ⟨P1, v1, v2, rfl, hP1, rfl, e1, e2⟩
        have hje : j < es.length := by unfold intL at hj; rw [List.length_map] at hj; exact hj
        have hg := List.getElem?_eq_getElem hje
        have hgm := List.getElem_mem hje
        generalize es[j] = en at hg hgm
        obtain ⟨st, a⟩ := en
        have e1' : ((intL es)[j]?.map fun q => kV q.1) = some v1 := e1
        have e2' : ((intL es)[j]?.map Prod.snd) = some v2 := e2
        unfold intL at e1' e2'
        rw [List.getElem?_map, hg] at e1' e2'
        have e1'' : v1 = .int ((st : Nat) : Int) := by injection e1' with h; exact h.symm
        have e2'' : v2 = .ref a := by injection e2' with h; exact h.symm
        subst e1'' e2''
        have s78 := (Same.refl H7').upd_new (o := .tup [.int ((st : Nat) : Int), .ref a]) hP1
        have f8 : (upd H7' P1 (.tup [.int ((st : Nat) : Int), .ref a])) P1 = some (.tup [.int ((st : Nat) : Int), .ref a]) := upd_same
        generalize upd H7' P1 (.tup [.int ((st : Nat) : Int), .ref a]) = H8 at s78 f8
        obtain ⟨x, hx, z, cs, q, ha, hq, hcs, hwl, hz, exz⟩ := vz _ hgm
        have k8 : FFr F Hz H8 := k7.trans (FFr.same s78)
        have tz : ∀ {b : Addr} {ys : List V}, Hz b = some (.tup ys) → H8 b = some (.tup ys) := fun {b} {ys} h => k8.get cz.f h (fun _ e => nomatch e) (fun _ e => nomatch e)
        have c8 := c7.same s78
        obtain ⟨dx8, o8⟩ := c8.o
        obtain ⟨dxf8, of8⟩ := c8.f.o
        have D8 := s78 _ _ D7
        have hcs' : ∀ c ∈ cs, c < S'.ns.length := fun c h => Nat.lt_of_lt_of_le (hcs c h) ll1
        obtain ⟨a1, a2, a3, a4, a5, a6⟩ := c8.ok.add (z := z) (cs := cs) hz hwl hcs'
        refine ⟨P1, _, rfl, SqT.of f8, rfl, _, _, rfl, _, _, rfl, rfl, rfl, ?_⟩
        refine ⟨_, rfl, _, rfl, a, _, _, _, rfl, rfl, SqT.of (tz ha), atI_nat (j := 0) rfl, _, rfl, s, CC, dx8, _, _, rfl, o8, B.cl, B.nF, ch_forest _ _ _ _, f, dxf8, _, rfl, of8, lk_node F, _, rfl, a, _, _, _, rfl, rfl, SqT.of (tz ha), atI_nat (j := 2) rfl, _, rfl, a, _, _, _, rfl, rfl, SqT.of (tz ha), atI_nat (j := 3) rfl, ?_⟩
        refine ⟨f, q, F, (.inr z, cs), S'.ns, S'.zs, S'.cs, rfl, c8.f, tz hq, hcs', by rw [hwl]; have := wR_le R z; show wR rows z ≤ 1000; omega, by omega, fun H9 k9 => ⟨fun i hi O => ?_, fun hn O => ?_⟩⟩
        · rw [FS.add_some hi] at a1 a2 a3 a4 a5 a6
          have a1 : FoOk rows S' := a1
          have a2 : ∀ i, i < S'.ns.length → trS S'.ns i = trS S'.ns i := a2
          have a3 : trS S'.ns i = z :: catS S'.ns cs := a3
          have a4 : i < S'.ns.length := a4
          have a5 : S'.ns.length ≤ S'.ns.length := a5
          have a6 : S'.ns.length ≤ S'.ns.length + 1 := a6
          have k9z : FFr F Hz H9 := k8.trans k9
          have D9 := k9.get c8.f D8 (fun _ e => nomatch e) (fun _ e => nomatch e)
          have tk9 : ∀ {b : Addr} {ys : List V}, H8 b = some (.tup ys) → H9 b = some (.tup ys) := fun {b} {ys} h => k9.get c8.f h (fun _ e => nomatch e) (fun _ e => nomatch e)
          have o9 := k9.get c8.f o8 (fun _ e => nomatch e) (fun _ e => nomatch e)
          have r9 : Rd H9 rk (.dK (rkL (rows.map (·.1)))) := by
            rcases c8.k with h | ⟨o, h⟩
            · exact .inl (k9.get c8.f h (fun _ e => nomatch e) (fun _ e => nomatch e))
            · exact .inr ⟨o, k9.get c8.f h (fun _ e => nomatch e) (fun _ e => nomatch e)⟩
          have c9 : ChK P w CC CF H9 s c rd rk f rows F S' := ⟨⟨dx8, o9⟩, r9, O, a1⟩
          refine ⟨le_line (show 2 ≤ 10000000 by decide), fun t ht => ?_⟩
          have s10 := (Same.refl H9).upd_new (o := .tup [.int x.1, .int ((i : Nat) : Int)]) ht
          have t10 : (upd H9 t (.tup [.int x.1, .int ((i : Nat) : Int)])) t = some (.tup [.int x.1, .int ((i : Nat) : Int)]) := upd_same
          have D10 := s10 _ _ D9
          have c10 := c9.same s10
          have k10 := k9z.trans (FFr.same s10)
          have tk10 : ∀ {b : Addr} {ys : List V}, H8 b = some (.tup ys) → (upd H9 t (.tup [.int x.1, .int ((i : Nat) : Int)])) b = some (.tup ys) := fun {b} {ys} h => s10 _ _ (tk9 h)
          refine ⟨intL es', .inl ((st : Nat) : Int), rfl, D10, ?_, S', es' ++ [(st, t)], ?_, ?_, fun i0 hi0 => kp i0 hi0, by omega, by omega, ?_, ?_, ?_⟩
          · unfold intL
            rw [List.length_map]
            have := congrArg List.length ek
            rw [List.length_map, List.length_map, List.length_take] at this
            exact lt_line (by omega)
          · intro b o hb n1 n2 n3 n4 n5
            rw [upd_ne (fun e => by rw [e, hD2] at hb; cases hb)]
            exact k10 b o hb n1 n2 n3 n4 n5
          · obtain ⟨⟨dx10, o10⟩, r10, f10, k10'⟩ := c10
            have nrk : rk ≠ D2 := fun e => by
              rcases cz.k with h | ⟨o, h⟩ <;> · rw [e, hD2] at h; cases h
            refine ⟨⟨dx10, by rw [upd_ne (ne_of o10 D10 (fun e => nomatch e))]; exact o10⟩, ?_, f10.updK D10, k10'⟩
            rcases r10 with h | ⟨o, h⟩
            · exact .inl (by rw [upd_ne nrk]; exact h)
            · exact .inr ⟨o, by rw [upd_ne nrk]; exact h⟩
          · rw [upd_same, intL_put_new]
            rw [ek]
            intro hm
            obtain ⟨e, he, q⟩ := List.mem_map.mp hm
            obtain ⟨i0, hi0, ei⟩ := List.mem_iff_getElem.mp he
            rw [List.length_take] at hi0
            rw [List.getElem_take] at ei
            have h1 : (es.map (·.1))[i0]? = some st := by rw [List.getElem?_map, List.getElem?_eq_getElem (by omega), ei]; exact congrArg some q
            have h2 : (es.map (·.1))[j]? = some st := by rw [List.getElem?_map, hg]; rfl
            obtain ⟨m1, g1⟩ := List.getElem?_eq_some_iff.mp h1
            obtain ⟨m2, g2⟩ := List.getElem?_eq_some_iff.mp h2
            have := (List.getElem_inj hnd).mp (g1.trans g2.symm)
            omega
          · rw [List.map_append, ek, List.take_add_one, hg, List.map_append]
            rfl
          · intro e he
            have kt : ∀ {b : Addr} {ys : List V}, (upd H9 t (.tup [.int x.1, .int ((i : Nat) : Int)])) b = some (.tup ys) → (upd (upd H9 t (.tup [.int x.1, .int ((i : Nat) : Int)])) D2 (.dK (putK (intL es') (.inl ((st : Nat) : Int)) (.ref t)))) b = some (.tup ys) := fun {b} {ys} h => by rw [upd_ne (ne_of h D10 (fun e => nomatch e))]; exact h
            rcases List.mem_append.mp he with g | g
            · obtain ⟨y, hy, i0, q1, q2, q3⟩ := ev e g
              exact ⟨y, hy, i0, kt (tk10 (s78 _ _ q1)), q2, q3⟩
            · rw [List.mem_singleton.mp g]
              refine ⟨x, hx, i, kt t10, a4, ?_⟩
              rw [a3, exz]
              congr 1
              unfold catS
              congr 1
              exact List.map_congr_left fun c h => kp c (hcs c h)
        · rw [FS.add_none hn] at a1 a2 a3 a4 a5 a6
          obtain ⟨S2, hS2⟩ : ∃ S2 : FS, S2 = ⟨S'.ns ++ [(.inr z, cs)], S'.zs ++ [szN S'.zs (.inr z, cs)], S'.cs ++ [clN S'.cs (.inr z, cs)]⟩ := ⟨_, rfl⟩
          obtain ⟨r, hr0⟩ : ∃ r : Nat, r = S'.ns.length := ⟨_, rfl⟩
          rw [← hS2, ← hr0] at a1 a2 a3 a4 a5 a6
          rw [← hr0]
          have O : ForS P w CF H9 f F S2 := by rw [hS2]; exact O
          have a1 : FoOk rows S2 := a1
          have a2 : ∀ i, i < S'.ns.length → trS S2.ns i = trS S'.ns i := by rw [hr0] at a2; exact a2
          have a3 : trS S2.ns r = z :: catS S'.ns cs := a3
          have a4 : r < S2.ns.length := a4
          have a5 : S'.ns.length ≤ S2.ns.length := by rw [hr0] at a5; exact a5
          have a6 : S2.ns.length ≤ S'.ns.length + 1 := by rw [hr0] at a6; exact a6
          have k9z : FFr F Hz H9 := k8.trans k9
          have D9 := k9.get c8.f D8 (fun _ e => nomatch e) (fun _ e => nomatch e)
          have tk9 : ∀ {b : Addr} {ys : List V}, H8 b = some (.tup ys) → H9 b = some (.tup ys) := fun {b} {ys} h => k9.get c8.f h (fun _ e => nomatch e) (fun _ e => nomatch e)
          have o9 := k9.get c8.f o8 (fun _ e => nomatch e) (fun _ e => nomatch e)
          have r9 : Rd H9 rk (.dK (rkL (rows.map (·.1)))) := by
            rcases c8.k with h | ⟨o, h⟩
            · exact .inl (k9.get c8.f h (fun _ e => nomatch e) (fun _ e => nomatch e))
            · exact .inr ⟨o, k9.get c8.f h (fun _ e => nomatch e) (fun _ e => nomatch e)⟩
          have c9 : ChK P w CC CF H9 s c rd rk f rows F S2 := ⟨⟨dx8, o9⟩, r9, O, a1⟩
          refine ⟨le_line (show 2 ≤ 10000000 by decide), fun t ht => ?_⟩
          have s10 := (Same.refl H9).upd_new (o := .tup [.int x.1, .int ((r : Nat) : Int)]) ht
          have t10 : (upd H9 t (.tup [.int x.1, .int ((r : Nat) : Int)])) t = some (.tup [.int x.1, .int ((r : Nat) : Int)]) := upd_same
          have D10 := s10 _ _ D9
          have c10 := c9.same s10
          have k10 := k9z.trans (FFr.same s10)
          have tk10 : ∀ {b : Addr} {ys : List V}, H8 b = some (.tup ys) → (upd H9 t (.tup [.int x.1, .int ((r : Nat) : Int)])) b = some (.tup ys) := fun {b} {ys} h => s10 _ _ (tk9 h)
          refine ⟨intL es', .inl ((st : Nat) : Int), rfl, D10, ?_, S2, es' ++ [(st, t)], ?_, ?_, fun i hi => (a2 i (by omega)).trans (kp i hi), by omega, by omega, ?_, ?_, ?_⟩
          · unfold intL
            rw [List.length_map]
            have := congrArg List.length ek
            rw [List.length_map, List.length_map, List.length_take] at this
            exact lt_line (by omega)
          · intro b o hb n1 n2 n3 n4 n5
            rw [upd_ne (fun e => by rw [e, hD2] at hb; cases hb)]
            exact k10 b o hb n1 n2 n3 n4 n5
          · obtain ⟨⟨dx10, o10⟩, r10, f10, k10'⟩ := c10
            have nrk : rk ≠ D2 := fun e => by
              rcases cz.k with h | ⟨o, h⟩ <;> · rw [e, hD2] at h; cases h
            refine ⟨⟨dx10, by rw [upd_ne (ne_of o10 D10 (fun e => nomatch e))]; exact o10⟩, ?_, f10.updK D10, k10'⟩
            rcases r10 with h | ⟨o, h⟩
            · exact .inl (by rw [upd_ne nrk]; exact h)
            · exact .inr ⟨o, by rw [upd_ne nrk]; exact h⟩
          · rw [upd_same, intL_put_new]
            rw [ek]
            intro hm
            obtain ⟨e, he, q⟩ := List.mem_map.mp hm
            obtain ⟨i, hi, ei⟩ := List.mem_iff_getElem.mp he
            rw [List.length_take] at hi
            rw [List.getElem_take] at ei
            have h1 : (es.map (·.1))[i]? = some st := by rw [List.getElem?_map, List.getElem?_eq_getElem (by omega), ei]; exact congrArg some q
            have h2 : (es.map (·.1))[j]? = some st := by rw [List.getElem?_map, hg]; rfl
            obtain ⟨m1, g1⟩ := List.getElem?_eq_some_iff.mp h1
            obtain ⟨m2, g2⟩ := List.getElem?_eq_some_iff.mp h2
            have := (List.getElem_inj hnd).mp (g1.trans g2.symm)
            omega
          · rw [List.map_append, ek, List.take_add_one, hg, List.map_append]
            rfl
          · intro e he
            have kt : ∀ {b : Addr} {ys : List V}, (upd H9 t (.tup [.int x.1, .int ((r : Nat) : Int)])) b = some (.tup ys) → (upd (upd H9 t (.tup [.int x.1, .int ((r : Nat) : Int)])) D2 (.dK (putK (intL es') (.inl ((st : Nat) : Int)) (.ref t)))) b = some (.tup ys) := fun {b} {ys} h => by rw [upd_ne (ne_of h D10 (fun e => nomatch e))]; exact h
            rcases List.mem_append.mp he with g | g
            · obtain ⟨y, hy, i, q1, q2, q3⟩ := ev e g
              exact ⟨y, hy, i, kt (tk10 (s78 _ _ q1)), by omega, by rw [a2 i q2]; exact q3⟩
            · rw [List.mem_singleton.mp g]
              refine ⟨x, hx, r, kt t10, a4, ?_⟩
              rw [a3, exz]
              congr 1
              unfold catS
              congr 1
              exact List.map_congr_left fun c h => kp c (hcs c h)
      · rintro H7 ⟨S', es', k7, c7, kp, ll1, ll2, D7, ek, ev⟩
        have lkv : (intL es).length = es.length := by unfold intL; rw [List.length_map]
        rw [lkv, List.take_length] at ek
        rw [lkv] at ll2
        refine key H7 D2 T6 S' ((FFr.same sz).trans k7) c7 kp ll1 (by omega) (sz.free hD2) ⟨es', D7, by rw [ek]; exact hnd, by rw [ek]; exact h3s, ev, fun s x hs => by rw [ek]; exact hall s x hs⟩ B6
end
end Sh
end
section
set_option Elab.async false
set_option linter.all false
set_option maxRecDepth 100000
set_option maxHeartbeats 16000000
namespace Sh
open PySem PySem.Spec PyProof.Rows L2
open C8 (pss_cut tCut)
open Evl (ixN_nat)
theorem ForAt.nw {P : Program} {w : World} {CF f g : Addr} {F : FA} {ns : List FN} {zs : List Nat} {cs : List Bool} {H : Hp} (O : ForAt P w CF H f F ns zs cs) (hg : H g = none) : g ≠ F.d ∧ g ≠ F.l ∧ g ≠ F.b ∧ g ≠ F.z ∧ g ≠ F.c := by
  obtain ⟨_, _, _, _, hz⟩ := id O.d
  obtain ⟨bs, h2, _⟩ := O.b
  exact ⟨fun e => (by rw [e, hz] at hg; cases hg), fun e => (by rw [e, O.l] at hg; cases hg), fun e => (by rw [e, h2] at hg; cases hg), fun e => (by rw [e, O.z] at hg; cases hg), fun e => (by rw [e, O.c] at hg; cases hg)⟩
theorem ChK.updl {P : Program} {w : World} {CC CF : Addr} {H : Hp} {p c rd rk f g : Addr} {rows : List Row} {F : FA} {S : FS} {ys : List V} {o : HO} (x : ChK P w CC CF H p c rd rk f rows F S) (hg : H g = some (.lst ys)) (n : g ≠ F.d ∧ g ≠ F.l ∧ g ≠ F.b ∧ g ≠ F.z ∧ g ≠ F.c) : ChK P w CC CF (upd H g o) p c rd rk f rows F S := by
  obtain ⟨⟨dx, h⟩, h2, h3, h4⟩ := x
  refine ⟨⟨dx, by rw [upd_ne (ne_of h hg (fun e => nomatch e))]; exact h⟩, ?_, h3.own hg n.2.1 n.2.2.1 n.2.2.2.1 n.2.2.2.2, h4⟩
  rcases h2 with h | ⟨o, h⟩
  · exact .inl (by rw [upd_ne (ne_of h hg (fun e => nomatch e))]; exact h)
  · exact .inr ⟨o, by rw [upd_ne (ne_of h hg (fun e => nomatch e))]; exact h⟩
theorem DsAt.updP {ns : List FN} {H : Hp} {ds : List Addr} {Ts : List Tb} {L : Addr} {ys : List V} {o : HO} (h : DsAt (VPt ns) H ds Ts) (hl : H L = some (.lst ys)) : DsAt (VPt ns) (upd H L o) ds Ts := ⟨h.1, fun i d T a b => by
  have x := h.2 i d T a b
  obtain ⟨es, hes, _⟩ := id x
  exact x.keep (upd_ne (ne_of hes hl (fun e => nomatch e))) fun a y ⟨n, h1, h2⟩ => ⟨n, by rw [upd_ne (ne_of h1 hl (fun e => nomatch e))]; exact h1, h2⟩⟩
theorem DsAt.ffr {P : Program} {w : World} {CF f : Addr} {F : FA} {S S' : FS} {H H' : Hp} {ds : List Addr} {Ts : List Tb} (h : DsAt (VPt S.ns) H ds Ts) (O : ForS P w CF H f F S) (k : FFr F H H') (kp : ∀ i, i < S.ns.length → trS S'.ns i = trS S.ns i) (le : S.ns.length ≤ S'.ns.length) : DsAt (VPt S'.ns) H' ds Ts := ⟨h.1, fun i d T a b => by
  obtain ⟨es, h1, h2, h3, h4, h5⟩ := h.2 i d T a b
  refine ⟨es, k.get O h1 (fun _ e => nomatch e) (fun _ e => nomatch e), h2, h3, fun e he => ?_, h5⟩
  obtain ⟨x, hx, n, n1, n2, n3⟩ := h4 e he
  exact ⟨x, hx, n, k.get O n1 (fun _ e => nomatch e) (fun _ e => nomatch e), by omega, by rw [kp n n2]; exact n3⟩⟩
theorem RdX.ffr {P : Program} {w : World} {CF f CR : Addr} {F : FA} {ns : List FN} {zs : List Nat} {cs : List Bool} {H H' : Hp} {p : Addr} {rows : List Row} {D : RdD} (h : RdX CR H p rows D) (O : ForAt P w CF H f F ns zs cs) (k : FFr F H H') : RdX CR H' p rows D := by
  obtain ⟨dx, b, d, mt, ds, h1, h3, h4⟩ := h
  have g : ∀ {x : Addr} {o : HO}, H x = some o → (∀ ys, o ≠ .lst ys) → (∀ φ, o ≠ .ext φ) → H' x = some o := fun {x} {o} h n1 n2 => k.get O h n1 n2
  exact ⟨dx, b, d, mt, ds, g h1 (fun _ e => nomatch e) (fun _ e => nomatch e), ⟨g h3.at_ (fun _ e => nomatch e) (fun _ e => nomatch e), h3.len, h3.nd, h3.nin, fun i n a q1 q2 => g (h3.row i n a q1 q2) (fun _ e => nomatch e) (fun _ e => nomatch e)⟩, g h4 (fun _ e => nomatch e) (fun _ e => nomatch e)⟩
theorem PrcAt.ffr {P : Program} {w : World} {CF f C CP : Addr} {F : FA} {ns : List FN} {zs : List Nat} {cs : List Bool} {H H' : Hp} {p : Addr} {rows : List Row} {cut : Int} {sws : List Swap} (h : PrcAt C CP H p rows cut sws) (O : ForAt P w CF H f F ns zs cs) (k : FFr F H H') : PrcAt C CP H' p rows cut sws := by
  obtain ⟨dx, b, q, d, us, ds, h1, h2, h3, h4, h5⟩ := h
  have g : ∀ {x : Addr} {o : HO}, H x = some o → (∀ ys, o ≠ .lst ys) → (∀ φ, o ≠ .ext φ) → H' x = some o := fun {x} {o} h n1 n2 => k.get O h n1 n2
  exact ⟨dx, b, q, d, us, ds, g h1 (fun _ e => nomatch e) (fun _ e => nomatch e), k.bed O h2, g h3 (fun _ e => nomatch e) (fun _ e => nomatch e), h4.keep fun t ys h => g h (fun _ e => nomatch e) (fun _ e => nomatch e), h5.keep fun a kvs h => g h (fun _ e => nomatch e) (fun _ e => nomatch e)⟩
theorem FFr.own {F : FA} {H H' : Hp} {g : Addr} {o : HO} (k : FFr F H H') (hg : H g = none) : FFr F H (upd H' g o) := fun x u h n1 n2 n3 n4 n5 => by
  rw [upd_ne (fun e => by rw [e, hg] at h; cases h)]
  exact k x u h n1 n2 n3 n4 n5
def TabOk (P : Program) (w : World) (K : PySem.W.Frag) (mg : Str → Option Value) (base : Heap) (C CP CR CC CF : Addr) : Prop := ∃ f, Meth K CC "table_above" f ∧ FnR P w K mg base CX0 5 f (spTab52 P w C CP CR CC CF)
def spTabs52 (P : Program) (w : World) (C CP CR CC CF : Addr) : Sp := fun vs H Q _ => ∃ (s p c rd rk f : Addr) (cut : Int) (rows : List Row) (D : RdD) (sws : List Swap) (F : FA) (S : FS) (l : List Str), vs = [.ref s, .ref p] ∧ ChK P w CC CF H s c rd rk f rows F S ∧ ROk 4 rows ∧ RdX CR H rd rows D ∧ D.Ok rows ∧ PrcAt C CP H c rows cut sws ∧ GoodB rows sws sws.length ∧ sws.length ≤ 6 ∧ Tq H p (sV l) ∧ PlantOk rows l ∧ S.ns.length ≤ 1000 ∧
  ∀ (H' : Hp) (d : Addr) (T : Tb) (S' : FS), FFr F H H' → ChK P w CC CF H' s c rd rk f rows F S' → S'.ns.length ≤ 10000 → H d = none → DtAt (VPt S'.ns) H' d T → TStk rows D cut sws (rkS rows) l [T] → Q (.ref d) H'
abbrev N_Changer_tables_of : List Str := ["self", "plant", "waiting", "kind", "below", "_"]
theorem sc_Changer_tables_of : FnScope N_Changer_tables_of ["self", "plant"] (defScope s_Changer_tables_of) := ⟨rfl, rfl, rfl, by decide +kernel, rfl, by decide +kernel, by decide +kernel⟩
section
variable {P : Program} {w : World} {K : PySem.W.Frag} {mg : Str → Option Value} {base : Heap} {C CP CR CC CF : Addr}
theorem body_tabs (T : Br mg) (BB : BedT K C) (BP : PrT K CP) (B : ChT K CC) (c_tab : TabOk P w K mg base C CP CR CC CF) {f0 : Addr} {cdv : Value} {A' : Around} {outer : List Env} {s' : Shared} {H : Hp} {vs : List V} {Q : VK} {E : XK} (hr : Room 5 (A'.deeper (envOfC "Changer.tables_of" (defScope s_Changer_tables_of) s'.heap.objs.size f0 cdv))) (h : spTabs52 P w C CP CR CC CF vs H Q E) :
    ∃ t, PSs (cxOf CX0 P w K mg base N_Changer_tables_of "Changer.tables_of" (defScope s_Changer_tables_of) f0 cdv A' outer s' H E).nox (defBody s_Changer_tables_of) t ∧ t { nx := fun _ H' => Q .non H', rt := Q } (start N_Changer_tables_of vs) H := by
  obtain ⟨fT, M_table_above, F_table_above⟩ := c_tab
  obtain ⟨s, p, c, rd, rk, f, cut, rows, D, sws, F, S0, l, rfl, hC, R, hRd, Ok, hPr, W, l6, hp, OL, l1000, key⟩ := h
  have hu := hu_of hr
  have lsV : (sV l).length = l.length := sV_len l
  refine ⟨_, (pss_cons (ps_set (i := 2) sc_Changer_tables_of.nd rfl (Or.inr rfl) (pe_lst pa_nil))
    (pss_cons (ps_for PassesOwn.never rfl (pi_tup (pe_revT (pv 1))) (pg_name (i := 3) sc_Changer_tables_of.nd rfl (Or.inl rfl))
      (pss_cons (ps_setLc (i := 4) (own := [("_", 5)]) (g := (gName 5)) (tt := tYes) rfl sc_Changer_tables_of.nd rfl rfl (sw_true rfl rfl rfl (by decide +kernel)) (pi_range1 (by rfl) T.b_range (pa_cons (pe_dget hu (pe_fld (pe_fld (pe_fld (pv 0) rfl) rfl) rfl) (pv 3) (fun _ _ => rfl)) pa_nil)) (blkOk_by (N := N_Changer_tables_of) (sc := defScope s_Changer_tables_of) (by decide +kernel)) (fun _ _ _ _ _ => (pg_name (i := 5) sc_Changer_tables_of.nd rfl (Or.inl rfl))) (fun _ _ _ _ _ => pts_nil) (fun _ _ _ _ _ => (show PE _ _ (tBM0 K "list" rPop _) from (pe_bm0 PySem.F.plainAttrs_list PySem.F.slot_list_pop PySem.F.type_list_pop mt_pop (pv 2)))))
      (pss_one (ps_expr (pe_bm PySem.F.plainAttrs_list PySem.F.slot_list_append PySem.F.type_list_append mt_append (pv 2) (pa_cons (pe_methR (pv 0) B.cl M_table_above F_table_above (hr.mono (by decide)) pass0 (pa_cons (pv 3) (pa_cons (pv 4) pa_nil))) pa_nil))))))
    (pss_one (ps_ret (pe_ix ix_list (pv 2) pe_int (fun _ _ => rfl)))))), ?_⟩
  refine ⟨le_line (show 0 ≤ 10000000 by decide), fun W1 hW1 => ?_⟩
  have s1 := (Same.refl H).upd_new (o := .lst []) hW1
  have nwW := hC.f.nw hW1
  have W1e : (upd H W1 (.lst [])) W1 = some (.lst ((([] : List Addr).reverse).map V.ref)) := upd_same
  generalize upd H W1 (.lst []) = H1 at s1 W1e
  refine ⟨_, rfl, p, _, rfl, (hp.same s1).sq, fun rp hrp => ?_⟩
  have s2 := s1.upd_new (o := .tup (sV l).reverse) hrp
  have W2e := ((Same.refl H1).upd_new (o := .tup (sV l).reverse) hrp) _ _ W1e
  have r2 : (upd H1 rp (.tup (sV l).reverse)) rp = some (.tup (sV l).reverse) := upd_same
  generalize upd H1 rp (.tup (sV l).reverse) = H2 at s2 W2e r2
  refine ⟨rp, rfl, ⟨_, SqT.of r2⟩, for_tup (xs := (sV l).reverse) (fun i σ H' => ∃ (x3 x4 x5 : Option V) (ds : List Addr) (S : List Tb) (Sx : FS), σ = [some (.ref s), some (.ref p), some (.ref W1), x3, x4, x5] ∧ FFr F H H' ∧ H' rp = some (.tup (sV l).reverse) ∧ ChK P w CC CF H' s c rd rk f rows F Sx ∧ Sx.ns.length ≤ S0.ns.length + 3 * i ∧ H' W1 = some (.lst ((ds.reverse).map V.ref)) ∧ DsAt (VPt Sx.ns) H' ds S ∧ (∀ d ∈ ds, H d = none) ∧ TStk rows D cut sws (rkS rows) (l.drop (l.length - i)) S)
    ⟨none, none, none, [], [], S0, rfl, FFr.same s2, r2, hC.same s2, Nat.le_refl _, W2e, ⟨rfl, fun i d T h => by simp at h⟩, fun d h => (nomatch h), by rw [Nat.sub_zero, List.drop_length]; exact .nil⟩ (fun i σ H' _ ⟨_, _, _, _, _, _, _, _, h, _⟩ => SqT.of h) ?_ ?_⟩
  · rintro i v σ H3 hv ⟨x3, x4, x5, ds, S, Sx, rfl, k3, r3, c3, n3, W3, D3, f3, TS⟩
    have hi : i < l.length := by have := (List.getElem?_eq_some_iff.mp hv).1; rw [List.length_reverse, lsV] at this; exact this
    have hil : l.length - 1 - i < l.length := by omega
    rw [List.getElem?_reverse (by rw [lsV]; exact hi), lsV] at hv
    have hz := List.getElem?_eq_getElem hil
    have hzk := OL.k _ (List.getElem_mem hil)
    have edr : l.drop (l.length - (i + 1)) = l[l.length - 1 - i] :: l.drop (l.length - i) := by
      rw [show l.length - (i + 1) = l.length - 1 - i by omega, List.drop_eq_getElem_cons hil, show l.length - 1 - i + 1 = l.length - i by omega]
    rw [sV_get hz] at hv
    injection hv with hv
    subst hv
    have hf : ∃ m, Mth.forest (wR rows) (l.drop (l.length - (i + 1))) m = true := forest_suf (a := l.take (l.length - (i + 1))) (k := 1) (by rw [List.take_append_drop]; exact OL.f)
    rw [edr] at hf
    generalize hzz : l[l.length - 1 - i] = z at edr hzk hf
    obtain ⟨m, hm⟩ := hf
    cases m with
    | zero => cases hm
    | succ m =>
    have hSl : S.length = wR rows z + m := f_uq _ _ _ _ TS.forest hm
    have hdl : ds.length = S.length := D3.1
    have hSn := TS.len
    have hsz := OL.sz
    rw [List.length_drop] at hSn
    have hw3 : wR rows z ≤ 3 := wR_le R z
    obtain ⟨dx3, o3⟩ := c3.o
    obtain ⟨dp, b, qq, dt, uu, dd, hpp, hBed, _, _, _⟩ := id (hPr.ffr hC.f k3)
    obtain ⟨bx, br, bk, bw, brk, bts, hb1, hb2, hb3, hb4, hb5, hb6⟩ := id hBed
    have gW : DGet H3 bw (.str z) (some (.int ((wR rows z : Nat) : Int))) := by
      have := DGet.k (k := .inr z) hb5
      rw [val_wL R hzk] at this
      exact this
    refine ⟨_, rfl, s, CC, dx3, _, _, rfl, o3, B.cl, B.nP, ch_prices _ _ _ _, c, CP, dp, _, _, rfl, hpp, BP.cl, BP.nB, prl_bed _ _ _ _, b, C, bx, _, _, rfl, hb1, BB.cl, BB.nW, lk_widths _ _ _ _, _, rfl, bw, _, rfl, gW, _, rfl, by omega, by omega, ?_⟩
    rw [Int.toNat_natCast]
    intro B1 hB
    have nB := c3.f.nw hB
    have hBH : H B1 = none := by
      cases e : H B1 with
      | none => rfl
      | some o =>
        rw [k3 B1 o e nB.1 nB.2.1 nB.2.2.1 nB.2.2.2.1 nB.2.2.2.2] at hB
        cases hB
    refine lc_it walk_range (n := wR rows z) (fun j H' => FFr F H H' ∧ H' rp = some (.tup (sV l).reverse) ∧ ChK P w CC CF H' s c rd rk f rows F Sx ∧ H' W1 = some (.lst (((ds.drop j).reverse).map V.ref)) ∧ H' B1 = some (.lst ((ds.take j).map V.ref)) ∧ DsAt (VPt Sx.ns) H' ds S) ?_ (fun _ _ _ _ => trivial) ?_ ?_
    · have s4 := (Same.refl H3).upd_new (o := .lst []) hB
      exact ⟨k3.own hBH, s4 _ _ r3, c3.same s4, s4 _ _ W3, upd_same, D3.smP s4⟩
    · rintro j v H4' H4 hj ⟨k4, r4, c4, W4, B4, D4⟩ ⟨rfl, hv⟩
      have hj : j < wR rows z := hj
      have hjd : j < ds.length := by omega
      have ed := List.drop_eq_getElem_cons hjd
      have et : ds.take (j + 1) = ds.take j ++ [ds[j]] := by rw [List.take_add_one, List.getElem?_eq_getElem hjd]; rfl
      generalize ds[j] = d0 at ed et
      rw [ed, List.reverse_cons, List.map_append] at W4
      have eL : ∀ xs : List V, (xs ++ [V.ref d0])[(xs ++ [V.ref d0]).length - 1]? = some (.ref d0) := fun xs => by
        rw [List.length_append, show ([V.ref d0] : List V).length = 1 from rfl, Nat.add_sub_cancel, List.getElem?_append_right (Nat.le_refl _), Nat.sub_self]
        rfl
      have nWB : W1 ≠ B1 := fun e => by
        rw [e] at W3
        rw [W3] at hB
        cases hB
      have hWd : (([d0] : List Addr).map V.ref) = [V.ref d0] := rfl
      rw [hWd] at W4
      refine ⟨rfl, _, rfl, .inl ⟨rfl, _, SqL.of W4⟩, W1, _, V.ref d0, rfl, rfl, W4, eL _, ?_⟩
      rw [List.dropLast_concat]
      have Bx : (upd H4 W1 (.lst ((ds.drop (j + 1)).reverse.map V.ref))) B1 = some (.lst ((ds.take j).map V.ref)) := by rw [upd_ne nWB.symm]; exact B4
      refine ⟨_, Bx, by rw [List.length_map, List.length_take]; exact lt_line (by omega), (k4.own hW1).own hBH, ?_, (c4.updl W4 nwW).updl Bx nB, by rw [upd_ne nWB, upd_same], by rw [upd_same, et, List.map_append]; rfl, (D4.updP W4).updP Bx⟩
      rw [upd_ne (fun e => by rw [e, B4] at r4; cases r4), upd_ne (fun e => by rw [e, W4] at r4; cases r4)]
      exact r4
    · rintro H4 ⟨k4, r4, c4, W4, B4, D4⟩
      obtain ⟨nss, hTB, hsum⟩ := TS.ok R Ok W fun y hy => OL.k y (List.mem_of_mem_drop hy)
      rw [← List.take_append_drop (wR rows z) S] at hTB TS
      obtain ⟨n1, n2, rfl, hT1, hT2⟩ := hTB.split
      rw [List.sum_append, List.length_drop] at hsum
      obtain ⟨dx4, o4⟩ := c4.o
      refine ⟨_, rfl, .inl ⟨rfl, _, SqL.of W4⟩, _, rfl, s, dx4, _, rfl, o4, lk_chm _ _ _ _ (x := "table_above") (by decide +kernel), _, rfl, _, rfl, s, B1, c, rd, rk, f, ds.take (wR rows z), cut, z, rows, D, sws, F, Sx, S.take (wR rows z), n1, rfl, c4, R, hRd.ffr hC.f k4, Ok, hPr.ffr hC.f k4, W, l6, hzk, B4, ⟨by rw [List.length_take, List.length_take, D4.1], fun i d T a b => (D4.take _).2 i d T a b⟩, by rw [List.length_take]; omega, hT1, by omega, by omega, fun H5 d Tt S5 k5 c5 kp ll1 ll2 hd d5 B5 => ?_⟩
      have W5 : H5 W1 = some (.lst (((ds.drop (wR rows z)).reverse).map V.ref)) := k5 _ _ W4 nwW.1 nwW.2.1 nwW.2.2.1 nwW.2.2.2.1 nwW.2.2.2.2
      have k05 := k4.trans k5
      have nd4 := c4.f.nw hd
      have hdH : H d = none := by
        cases e : H d with
        | none => rfl
        | some o =>
          rw [k4 d o e nd4.1 nd4.2.1 nd4.2.2.1 nd4.2.2.2.1 nd4.2.2.2.2] at hd
          cases hd
      refine ⟨W1, _, _, rfl, rfl, W5, by rw [List.length_map, List.length_reverse, List.length_drop]; exact lt_line (by omega), ?_⟩
      refine ⟨_, _, _, d :: ds.drop (wR rows z), Tt :: S.drop (wR rows z), S5, rfl, k05.own hW1, ?_, c5.updl W5 nwW, by omega, by rw [upd_same, List.reverse_cons, List.map_append]; rfl, (((D4.drop _).ffr c4.f k5 kp ll1).cons d5).updP W5, fun e he => ?_, ?_⟩
      · have r5 := k5.get c4.f r4 (fun _ e => nomatch e) (fun _ e => nomatch e)
        rw [upd_ne (ne_of r5 W5 (fun e => nomatch e))]
        exact r5
      · rcases List.mem_cons.mp he with rfl | g
        · exact hdH
        · exact f3 e (List.mem_of_mem_drop g)
      · rw [edr]
        exact .cons TS (by rw [List.length_take]; omega) B5
  · rintro σ H3 ⟨x3, x4, x5, ds, S, Sx, rfl, k3, r3, c3, n3, W3, D3, f3, TS⟩
    rw [List.length_reverse, lsV] at n3 TS
    rw [Nat.sub_self, List.drop_zero] at TS
    have hS1 : S.length = 1 := f_uq _ _ _ _ TS.forest OL.f
    have hd1 : ds.length = 1 := D3.1.trans hS1
    obtain ⟨Tt, rfl⟩ := List.length_eq_one_iff.mp hS1
    obtain ⟨d, rfl⟩ := List.length_eq_one_iff.mp hd1
    have hsz := OL.sz
    refine ⟨_, rfl, W1, _, _, _, rfl, rfl, SqL.of W3, atI_nat (j := 0) rfl, ?_⟩
    exact key H3 d Tt Sx k3 c3 (by omega) (f3 d List.mem_cons_self) (D3.2 0 d Tt rfl rfl) TS
end
end Sh
end
section
set_option Elab.async false
set_option linter.all false
set_option maxRecDepth 100000
set_option maxHeartbeats 16000000
namespace Sh
open PySem PySem.Spec PyProof.Rows L2
open C8 (pss_cut tCut)
open Evl (ixN_nat)
theorem ch_put2 (c r : Addr) : putF "reader" (.ref r) [("prices", .ref c)] = [(("prices" : Str), V.ref c), ("reader", .ref r)] := by simp [putF, c_ne]
theorem ch_put3 (c r k : Addr) : putF "ranks" (.ref k) [("prices", .ref c), ("reader", .ref r)] = [(("prices" : Str), V.ref c), ("reader", .ref r), ("ranks", .ref k)] := by simp [putF, c_ne]
theorem ch_put4 (c r k f : Addr) : putF "forest" (.ref f) [("prices", .ref c), ("reader", .ref r), ("ranks", .ref k)] = chF c r k f := by simp [putF, c_ne, chF]
theorem ForAt.updX {P : Program} {w : World} {CF f g C dx : Addr} {F : FA} {ns : List FN} {zs : List Nat} {cs : List Bool} {H : Hp} {ys : List (Str × V)} {o : HO} (O : ForAt P w CF H f F ns zs cs) (hg : H g = some (.ins C dx ys)) (n : f ≠ g) : ForAt P w CF (upd H g o) f F ns zs cs := by
  obtain ⟨dx, h1⟩ := O.o
  obtain ⟨bs, h2, h3⟩ := O.b
  have nl : ∀ {a : Addr} {u : HO}, H a = some u → (∀ C dx y, u ≠ .ins C dx y) → (upd H g o) a = some u := fun {a} {u} h n => by
    rw [upd_ne (ne_of h hg (n _ _ _))]
    exact h
  obtain ⟨z1, z2, zz, z3, hz⟩ := id O.d
  have ned : F.d ≠ g := fun e => by rw [e, hg] at hz; cases hz
  exact ⟨O.ap, ⟨dx, by rw [upd_ne n]; exact h1⟩, O.d.keeps (fun b ys h => nl h (fun _ _ _ e => nomatch e)) (upd_ne ned), nl O.l (fun _ _ _ e => nomatch e), ⟨bs, nl h2 (fun _ _ _ e => nomatch e), h3.1, fun i b n q1 q2 => nl (h3.2 i b n q1 q2) (fun _ _ _ e => nomatch e)⟩, nl O.z (fun _ _ _ e => nomatch e), nl O.c (fun _ _ _ e => nomatch e), O.lz, O.lc⟩
def spChI (P : Program) (w : World) (C CP CC CF : Addr) : Sp := fun vs H Q _ => ∃ (x dx c rd : Addr) (cut : Int) (rows : List Row) (sws : List Swap), vs = [.ref x, .ref c, .ref rd] ∧ H x = some (.ins CC dx []) ∧ PrcAt C CP H c rows cut sws ∧ ∀ (H' : Hp) (rk f : Addr) (F : FA), Kp x H H' → H F.d = none → H F.l = none → H F.b = none → H F.z = none → H F.c = none → H f = none → ChK P w CC CF H' x c rd rk f rows F ⟨[], [], []⟩ → Q .non H'
abbrev N_Changer_init__ : List Str := ["self", "prices", "reader"]
theorem sc_Changer_init__ : FnScope N_Changer_init__ ["self", "prices", "reader"] (defScope s_Changer_init__) := ⟨rfl, rfl, rfl, by decide +kernel, rfl, by decide +kernel, by decide +kernel⟩
section
variable {P : Program} {w : World} {K : PySem.W.Frag} {mg : Str → Option Value} {base : Heap} {C CP CR CC CF : Addr}
theorem body_chI (T : Bl mg) (BB : BedT K C) (BP : PrT K CP) (B : ChT K CC) (c_Forest : ForC P w K mg base CF) {f0 : Addr} {cdv : Value} {A' : Around} {outer : List Env} {s' : Shared} {H : Hp} {vs : List V} {Q : VK} {E : XK} (hr : Room 3 (A'.deeper (envOfC "Changer.__init__" (defScope s_Changer_init__) s'.heap.objs.size f0 cdv))) (h : spChI P w C CP CC CF vs H Q E) :
    ∃ t, PSs (cxOf CX0 P w K mg base N_Changer_init__ "Changer.__init__" (defScope s_Changer_init__) f0 cdv A' outer s' H E) (defBody s_Changer_init__) t ∧ t { nx := fun _ H' => Q .non H', rt := Q } (start N_Changer_init__ vs) H := by
  obtain ⟨x, dx, c, rd, cut, rows, sws, rfl, hx, hPr, key⟩ := h
  obtain ⟨dp, b, qq, dt, uu, dd, hp, hBed, _, _, _⟩ := id hPr
  obtain ⟨bx, br, bk, bw, brk, bts, hb1, hb2, hb3, hb4, hb5, hb6⟩ := id hBed
  refine ⟨_, (pss_cons (ps_fld (pv 0) (pv 1) rfl)
    (pss_cons (ps_fld (pv 0) (pv 2) rfl)
    (pss_cons (ps_fld (pv 0) (pe_fld (pe_fld (pv 1) rfl) rfl) rfl)
    (pss_one (ps_fld (pv 0) (pe_forest c_Forest (hr.mono (by decide))) rfl))))), ?_⟩
  refine ⟨_, rfl, _, rfl, x, CC, dx, _, rfl, hx, B.cl, B.nP, (by show 0 < 1000; decide), ?_⟩
  rw [show putF "prices" (.ref c) [] = [(("prices" : Str), V.ref c)] from rfl]
  refine ⟨_, rfl, _, rfl, x, CC, dx, _, rfl, upd_same, B.cl, B.nR, (by show 1 < 1000; decide), ?_⟩
  rw [ch_put2]
  have k2 : Kp x H (upd (upd H x (.ins CC dx [(("prices" : Str), V.ref c)])) x (.ins CC dx [(("prices" : Str), V.ref c), ("reader", .ref rd)])) := ((Kp.refl x H).upd).upd
  have x2 : (upd (upd H x (.ins CC dx [(("prices" : Str), V.ref c)])) x (.ins CC dx [(("prices" : Str), V.ref c), ("reader", .ref rd)])) x = some (.ins CC dx [(("prices" : Str), V.ref c), ("reader", .ref rd)]) := upd_same
  generalize upd (upd H x (.ins CC dx [(("prices" : Str), V.ref c)])) x (.ins CC dx [(("prices" : Str), V.ref c), ("reader", .ref rd)]) = H2 at k2 x2
  have ncx : c ≠ x := ne_of hp hx (fun e => by unfold prF at e; cases e)
  have nbx : b ≠ x := ne_of hb1 hx (fun e => by unfold bedF at e; cases e)
  refine ⟨_, rfl, c, CP, dp, _, _, rfl, k2 _ _ hp ncx, BP.cl, BP.nB, prl_bed _ _ _ _, b, C, bx, _, _, rfl, k2 _ _ hb1 nbx, BB.cl, BB.nRk, lk_ranks _ _ _ _, _, rfl, x, CC, dx, _, rfl, x2, B.cl, B.nK, (by show 2 < 1000; decide), ?_⟩
  rw [ch_put3]
  have k3 : Kp x H (upd H2 x (.ins CC dx [(("prices" : Str), V.ref c), ("reader", .ref rd), ("ranks", .ref brk)])) := k2.upd
  have x3 : (upd H2 x (.ins CC dx [(("prices" : Str), V.ref c), ("reader", .ref rd), ("ranks", .ref brk)])) x = some (.ins CC dx [(("prices" : Str), V.ref c), ("reader", .ref rd), ("ranks", .ref brk)]) := upd_same
  generalize upd H2 x (.ins CC dx [(("prices" : Str), V.ref c), ("reader", .ref rd), ("ranks", .ref brk)]) = H3 at k3 x3
  intro H4 f F s4 hf nw O
  have x4 := s4 _ _ x3
  have back : ∀ {a : Addr}, H3 a = none → H a = none := fun {a} h => by
    cases e : H a with
    | none => rfl
    | some o =>
      by_cases c : a = x
      · rw [c, x3] at h; cases h
      · rw [k3 a o e c] at h; cases h
  refine ⟨_, rfl, x, CC, dx, _, rfl, x4, B.cl, B.nF, (by show 3 < 1000; decide), ?_⟩
  rw [ch_put4]
  have kx : Kp x H4 (upd H4 x (.ins CC dx (chF c rd brk f))) := (Kp.refl x H4).upd
  have k34 := k3.trans (Kp.same s4)
  have r4 := k34 _ _ hb6 (ne_of hb6 hx (fun e => nomatch e))
  refine key _ brk f F (k34.trans kx) (back nw.1) (back nw.2.1) (back nw.2.2.1) (back nw.2.2.2.1) (back nw.2.2.2.2) (back hf) ⟨⟨dx, upd_same⟩, .inl (kx _ _ r4 (ne_of r4 x4 (fun e => nomatch e))), ?_, .nil rows⟩
  exact O.updX x4 (fun e => by rw [e, x3] at hf; cases hf)
end
def ChC (P : Program) (w : World) (K : PySem.W.Frag) (mg : Str → Option Value) (base : Heap) (C CP CC CF : Addr) (k : Nat) : Prop := mg "Changer" = some (.ref CC) ∧ ∃ fI fd, Mk K CC fI ∧ FnOk P w K mg base CX0 k fI fd ["self", "prices", "reader"] (spChI P w C CP CC CF) ∧ Binds K fd ["self", "prices", "reader"] []
theorem pe_changer {X : Cx} {C CP CC CF : Addr} {k : Nat} {e : Expr} {es : List Expr} {t : TA} {p pos : Pos} (D : ChC X.prog X.w X.K X.mg X.base C CP CC CF k) (hr : Room (k + 1) X.A) (ha : PA X (e :: es) t) (hg : Gl X "Changer" := by rfl)
    (he : starEach (e :: es) X.env = (false, eval e X.env) :: starEach es X.env := by rfl) (hpl : (backTo pos (starEach es X.env)).any (·.1) = false := by rfl) :
    PE X (.Call (.Name "Changer" p) (e :: es) [] pos) (tMake CC (spChI X.prog X.w C CP CC CF) [] E0 t) := by
  obtain ⟨hm, fI, fd, M, F, hb⟩ := D
  exact pe_make M F hr hg hm hb .nil pass0 ha (by decide) he hpl
def TbsOk2 (P : Program) (w : World) (K : PySem.W.Frag) (mg : Str → Option Value) (base : Heap) (C CP CR CC CF : Addr) : Prop := ∃ f, Meth K CC "tables_of" f ∧ FnR P w K mg base CX0 6 f (spTabs52 P w C CP CR CC CF)
def VFor (P : Program) (w : World) (CF : Addr) (rows : List Row) (H : Hp) (v : V) (o : Option Cp) : Prop := match o with
  | none => v = .non
  | some x => ∃ (q f : Addr) (n : Nat) (F : FA) (S : FS), v = .ref q ∧ H q = some (.tup [.ref f, .int x.1, .int ((n : Nat) : Int)]) ∧ ForS P w CF H f F S ∧ FoOk rows S ∧ n < S.ns.length ∧ trS S.ns n = x.2
def spChpC (P : Program) (w : World) (C CP CR CF : Addr) : Sp := fun vs H Q _ => ∃ (c p rd : Addr) (cut : Int) (rows : List Row) (D : RdD) (sws : List Swap) (l : List Str), vs = [.ref c, .ref p, .ref rd] ∧ ROk 4 rows ∧ RdX CR H rd rows D ∧ D.Ok rows ∧ PrcAt C CP H c rows cut sws ∧ GoodB rows sws sws.length ∧ sws.length ≤ 6 ∧ Tq H p (sV l) ∧ PlantOk rows l ∧
  ∀ (H' : Hp) (v : V) (o : Option Cp), Same H H' → AnsIs rows D cut sws (rkS rows) l o → VFor P w CF rows H' v o → Q v H'
theorem inV_nI (st : Nat) (ms : List Nat) : inV (.int ((st : Nat) : Int)) (nI ms) = decide (st ∈ ms) := by
  have e : nI ms = (ms.map fun i => ((i : Nat) : Int)).map V.int := by unfold nI; rw [List.map_map]; rfl
  rw [e, mem_map_ints]
  refine decide_eq_decide.mpr ⟨fun h => ?_, fun h => List.mem_map.mpr ⟨st, h, rfl⟩⟩
  obtain ⟨m, hm, q⟩ := List.mem_map.mp h
  have : m = st := by omega
  rw [← this]
  exact hm
/-- the best of those that were looked at -/
def BstV (rows : List Row) (ns : List FN) (ms : List Nat) (T : Tb) (es : List Nat) (H : Hp) (v : V) : Prop := (v = .non ∧ ∀ m ∈ es, m ∈ ms → T m = none) ∨ ∃ t y, v = .ref t ∧ VBs rows ns H t y ∧ (∃ m ∈ es, m ∈ ms ∧ T m = some y) ∧ ∀ m ∈ es, m ∈ ms → ∀ x, T m = some x → ¬ pB (rkS rows) x y
theorem BstV.same {rows : List Row} {ns : List FN} {ms : List Nat} {T : Tb} {es : List Nat} {H H' : Hp} {v : V} (h : BstV rows ns ms T es H v) (s : Same H H') : BstV rows ns ms T es H' v := by
  rcases h with h | ⟨t, y, h1, h2, h3⟩
  · exact .inl h
  · exact .inr ⟨t, y, h1, h2.tk fun _ _ q => s _ _ q, h3⟩
abbrev N_cheapest_change : List Str := ["prices", "plant", "reader", "changer", "forest", "best", "state", "cost", "node", "choice"]
theorem sc_cheapest_change : FnScope N_cheapest_change ["prices", "plant", "reader"] (defScope s_cheapest_change) := ⟨rfl, rfl, rfl, by decide +kernel, rfl, by decide +kernel, by decide +kernel⟩
section
variable {P : Program} {w : World} {K : PySem.W.Frag} {mg : Str → Option Value} {base : Heap} {C CP CR CC CF : Addr}
theorem ok_chpc52 (T : Br mg) (BR : RdT K CR) (B : ChT K CC) (BF : ForT K CF) (c_Changer : ChC P w K mg base C CP CC CF 4) (c_tabs : TbsOk2 P w K mg base C CP CR CC CF) (c_is_better : BetOk P w K mg base CC CF) (c_node : NodOk P w K mg base CF) (D : Def0 K mg "cheapest_change" s_cheapest_change) : DefOk P w K mg base CX0 7 "cheapest_change" (spChpC P w C CP CR CF) := by
  obtain ⟨fT, M_tables_of, F_tables_of⟩ := c_tabs
  obtain ⟨fB, M_is_better, F_is_better⟩ := c_is_better
  obtain ⟨fN, M_node_for, F_node_for⟩ := c_node
  refine D.ok sc_cheapest_change (fun vs H Q E h => ?_) (fun _ _ _ _ _ _ us hl => match us, hl with | [_, _, _], _ => rfl) (fun f0 cdv A outer s' H vs Q E hr h => ?_)
  · obtain ⟨c, p, rd, cut, rows, D, sws, l, rfl, _⟩ := h
    rfl
  · obtain ⟨c', p, rd, cut, rows, D, sws, l, rfl, R, hRd, Ok, hPr, W, l6, hp, OL, key⟩ := h
    have hu := hu_of hr
    refine ⟨_, (pss_cons (ps_set (i := 3) sc_cheapest_change.nd rfl (Or.inl rfl) (pe_changer c_Changer (hr.mono (by decide)) (pa_cons (pv 0) (pa_cons (pv 2) pa_nil))))
      (pss_cons (ps_set (i := 4) sc_cheapest_change.nd rfl (Or.inl rfl) (pe_fld (pv 3) rfl))
      (pss_cons (ps_set (i := 5) sc_cheapest_change.nd rfl (Or.inl rfl) pe_non)
      (pss_cons (ps_for PassesOwn.never rfl (pi_items (pe_lockV (pe_methR (pv 3) B.cl M_tables_of F_tables_of (hr.mono (by decide)) pass0 (pa_cons (pv 1) pa_nil)))) (pg_tup (by rfl) (pgs_cons (pg_name (i := 6) sc_cheapest_change.nd rfl (Or.inl rfl)) (pgs_cons (pg_tup (by rfl) (pgs_cons (pg_name (i := 7) sc_cheapest_change.nd rfl (Or.inl rfl)) (pgs_cons (pg_name (i := 8) sc_cheapest_change.nd rfl (Or.inl rfl)) pgs_nil))) pgs_nil)))
        (pss_cons (ps_set (i := 9) sc_cheapest_change.nd rfl (Or.inl rfl) (pe_tup (pa_cons (pv 7) (pa_cons (pe_ix ix_list (pe_fld (pv 4) rfl) (pv 8) (fun _ _ => rfl)) (pa_cons (pe_ix ix_list (pe_fld (pv 4) rfl) (pv 8) (fun _ _ => rfl)) (pa_cons (pe_ix ix_list (pe_fld (pv 4) rfl) (pv 8) (fun _ _ => rfl)) pa_nil))))))
        (pss_one (ps_if (PW.pt (pw_and (pt_cmpR op_in_seq (pv 6) (pe_fld (pv 2) rfl) (by rfl)) (pw_and1 (PW.pt (pw_or (pt_cmpR op_isN (pv 5) pe_non (nomark _)) (pw_or1 (pt_val (pe_methR (pv 3) B.cl M_is_better F_is_better (hr.mono (by decide)) pass0 (pa_cons (pv 9) (pa_cons (pv 5) pa_nil))))))))))
          (pss_one (ps_set (i := 5) sc_cheapest_change.nd rfl (Or.inl rfl) (pv 9)))
          pss_nil))))
      (pss_one (ps_ret (pe_ifExp (pt_cmpR op_isN (pv 5) pe_non (nomark _)) pe_non (pe_tup (pa_cons (pv 4) (pa_cons (pe_ix ix_tup (pv 5) pe_int (fun _ _ => rfl)) (pa_cons (pe_methR (pv 4) BF.cl M_node_for F_node_for (hr.mono (by decide)) pass0 (pa_cons (pe_ix ix_tup (pv 5) pe_int (fun _ _ => rfl)) (pa_cons (pe_ix ix_tup (pv 5) pe_int (fun _ _ => rfl)) pa_nil))) pa_nil))))))))))), ?_⟩
    refine ⟨_, rfl, _, rfl, fun x dx hx hdx hne => ?_⟩
    have s1 := (Same.refl H).upd_new (o := .own x) hdx
    have s2 := s1.upd_new (o := .ins CC dx []) (by rw [upd_ne (Ne.symm hne)]; exact hx)
    refine ⟨x, dx, c', rd, cut, rows, sws, rfl, upd_same, hPr.same s2, fun H1 rk f F k1 nd nl nb nz nc nf c1 => ⟨rfl, ?_⟩⟩
    have sH1 : Same H H1 := fun a o h => k1 a o (s2 a o h) (fun e => by rw [e, hx] at h; cases h)
    have back : ∀ {a : Addr}, (upd (upd H dx (.own x)) x (.ins CC dx [])) a = none → H a = none := fun {a} h => s2.free h
    obtain ⟨dx1, o1⟩ := c1.o
    refine ⟨_, rfl, x, CC, dx1, _, _, rfl, o1, B.cl, B.nF, ch_forest _ _ _ _, ?_⟩
    refine ⟨_, rfl, x, dx1, _, rfl, o1, lk_chm _ _ _ _ (x := "tables_of") (by decide +kernel), _, rfl, x, p, c', rd, rk, f, cut, rows, D, sws, F, ⟨[], [], []⟩, l, rfl, c1, R, hRd.same sH1, Ok, hPr.same sH1, W, l6, hp.same sH1, OL, Nat.zero_le _, fun H2 d Tt S2 k2 c2 ll2 hd2 d2 TS => ?_⟩
    have sH2 : Same H H2 := fun a o h => by
      have h1 := sH1 a o h
      exact k2 a o h1 (fun e => by rw [e, back nd] at h; cases h) (fun e => by rw [e, back nl] at h; cases h) (fun e => by rw [e, back nb] at h; cases h) (fun e => by rw [e, back nz] at h; cases h) (fun e => by rw [e, back nc] at h; cases h)
    have hdH : H d = none := sH1.free hd2
    obtain ⟨es, hes, hnd, h3s, hev, hall⟩ := id d2
    refine ⟨d, intL es, rfl, hes, fun od => ⟨d, od, intL es, rfl, upd_same, ?_⟩⟩
    have sz : Same H (upd H2 d (.frz od (.dK (intL es)))) := sH2.upd_own hdH
    have fz : (upd H2 d (.frz od (.dK (intL es)))) d = some (.frz od (.dK (intL es))) := upd_same
    have cz : ChK P w CC CF (upd H2 d (.frz od (.dK (intL es)))) x c' rd rk f rows F S2 := c2.lock hes
    have vz : ∀ e ∈ es, ∃ x, Tt e.1 = some x ∧ VPt S2.ns (upd H2 d (.frz od (.dK (intL es)))) e.2 x := fun e he => by
      obtain ⟨y, h1, n, h2, h3⟩ := hev e he
      exact ⟨y, h1, n, by rw [upd_ne (ne_of h2 hes (fun e => nomatch e))]; exact h2, h3⟩
    generalize upd H2 d (.frz od (.dK (intL es))) = Hz at sz fz cz vz
    have lkv : (intL es).length = es.length := by unfold intL; rw [List.length_map]
    obtain ⟨dxz, oz⟩ := cz.o
    obtain ⟨dxf, ofz⟩ := cz.f.o
    obtain ⟨bs, hbs, hbl⟩ := cz.f.b
    obtain ⟨dr, b, dc, mt, dds, r1, r3, r4⟩ := hRd.same sz
    obtain ⟨g1, g2, g3, g4⟩ := rd_lk b dc mt D.many D.rest
    refine for_it (walk_items (kvs := intL es)) (fun j σ H' => ∃ (v x6 x7 x8 x9 : _), σ = [some (.ref c'), some (.ref p), some (.ref rd), some (.ref x), some (.ref f), some v, x6, x7, x8, x9] ∧ Same Hz H' ∧ BstV rows S2.ns D.marks Tt ((es.take j).map (·.1)) H' v)
      ⟨.non, none, none, none, none, rfl, Same.refl Hz, .inl ⟨rfl, fun m h => (nomatch h)⟩⟩ (fun j σ H' _ ⟨_, _, _, _, _, _, q, _⟩ => q _ _ fz) ?_ ?_
    · rintro j v σ H3' H3 hj ⟨bv, x6, x7, x8, x9, rfl, s3, B3⟩ ⟨P1, v1, v2, rfl, hP1, rfl, e1, e2⟩
      have hje : j < es.length := by rw [← lkv]; exact hj
      have hg := List.getElem?_eq_getElem hje
      have hgm := List.getElem_mem hje
      have et : (es.take (j + 1)).map (·.1) = (es.take j).map (·.1) ++ [es[j].1] := by rw [List.take_add_one, hg, List.map_append]; rfl
      generalize es[j] = en at hg hgm et
      obtain ⟨st, a⟩ := en
      have e1' : ((intL es)[j]?.map fun q => kV q.1) = some v1 := e1
      have e2' : ((intL es)[j]?.map Prod.snd) = some v2 := e2
      unfold intL at e1' e2'
      rw [List.getElem?_map, hg] at e1' e2'
      have e1'' : v1 = .int ((st : Nat) : Int) := by injection e1' with h; exact h.symm
      have e2'' : v2 = .ref a := by injection e2' with h; exact h.symm
      subst e1'' e2''
      obtain ⟨y, hy, n, ha, hn, hty⟩ := vz _ hgm
      have s34 := (Same.refl H3').upd_new (o := .tup [.int ((st : Nat) : Int), .ref a]) hP1
      have f4 : (upd H3' P1 (.tup [.int ((st : Nat) : Int), .ref a])) P1 = some (.tup [.int ((st : Nat) : Int), .ref a]) := upd_same
      generalize upd H3' P1 (.tup [.int ((st : Nat) : Int), .ref a]) = H4 at s34 f4
      have sz4 := s3.trans s34
      obtain ⟨z, cs, gn, hz, hlc, hlt, etS, _⟩ := cz.ok.at hn
      have hzn : (nI S2.zs)[n]? = some (.int ((y.2.length : Nat) : Int)) := by
        have h1 := List.getElem?_eq_getElem (show n < S2.zs.length by rw [cz.ok.lz]; exact hn)
        have h2 := cz.ok.Z n hn
        rw [List.getD_eq_getElem?_getD, h1] at h2
        have h2 : S2.zs[n]'(by rw [cz.ok.lz]; exact hn) = (trS S2.ns n).length := h2
        rw [nI_at h1, h2, hty]
      have hlab : (S2.ns.map fun n => kV n.1)[n]? = some (.str z) := by rw [List.getElem?_map, gn]; rfl
      have hbn := List.getElem?_eq_getElem (show n < bs.length by rw [hbl.1]; exact hn)
      have hbt := hbl.2 n _ _ hbn gn
      generalize bs[n]'(by rw [hbl.1]; exact hn) = bt at hbn hbt
      have hbt : Hz bt = some (.tup (nI cs)) := hbt
      refine ⟨P1, _, rfl, SqT.of f4, rfl, _, _, rfl, _, _, rfl, a, _, rfl, SqT.of (sz4 _ _ ha), rfl, _, _, rfl, _, _, rfl, rfl, rfl, ?_⟩
      refine ⟨_, rfl, _, rfl, f, CF, dxf, _, _, rfl, sz4 _ _ ofz, BF.cl, BF.nS, lk_siz F, _, rfl, F.z, _, _, _, rfl, rfl, SqL.of (sz4 _ _ cz.f.z), at_ofG (j := n) rfl hzn, _, rfl, f, CF, dxf, _, _, rfl, sz4 _ _ ofz, BF.cl, BF.nL, lk_lab F, _, rfl, F.l, _, _, _, rfl, rfl, SqL.of (sz4 _ _ cz.f.l), at_ofG (j := n) rfl hlab, _, rfl, f, CF, dxf, _, _, rfl, sz4 _ _ ofz, BF.cl, BF.nB, lk_bel F, _, rfl, F.b, _, _, _, rfl, rfl, SqL.of (sz4 _ _ hbs), at_ofG (j := n) rfl (by rw [List.getElem?_map, hbn]; rfl), le_line (show 4 ≤ 10000000 by decide), fun t ht => ?_⟩
      have s45 : Same H4 (upd H4 t (.tup [.int y.1, .int ((y.2.length : Nat) : Int), .str z, .ref bt])) := (Same.refl H4).upd_new ht
      have t5 : (upd H4 t (.tup [.int y.1, .int ((y.2.length : Nat) : Int), .str z, .ref bt])) t = some (.tup [.int y.1, .int ((y.2.length : Nat) : Int), .str z, .ref bt]) := upd_same
      have sz5 := sz4.trans s45
      have s35 := s34.trans s45
      have vt : VBs rows S2.ns (upd H4 t (.tup [.int y.1, .int ((y.2.length : Nat) : Int), .str z, .ref bt])) t y := ⟨z, cs, bt, t5, sz5 _ _ hbt, fun c h => Nat.lt_trans (hlt c h) hn, hlc, hz, by rw [← hty]; exact etS⟩
      have B5 := B3.same s35
      refine ⟨_, rfl, _, rfl, rd, CR, dr, _, _, rfl, sz5 _ _ r1, BR.cl, BR.nM, g3, mt, _, rfl, .inr (SqT.of (sz5 _ _ r4)), rfl, flat_nI _, _, rfl, ?_⟩
      show if (inV (V.int ((st : Nat) : Int)) (nI D.marks)) = true then _ else _
      rw [inV_nI]
      refine ite2 (fun c => ?_) (fun c => ?_)
      · have hm := of_decide_eq_true c
        rcases B5 with ⟨rfl, hno⟩ | ⟨tb, yb, rfl, hvb, hmb, hbst⟩
        · refine ⟨_, rfl, rfl, _, rfl, ifp (by simp) (ifp rfl ⟨_, rfl, .ref t, _, _, _, _, rfl, sz5, .inr ⟨t, y, rfl, vt, ⟨st, by rw [et]; exact List.mem_append_right _ List.mem_cons_self, hm, hy⟩, fun m hm1 hm2 x hx => ?_⟩⟩)⟩
          rw [et] at hm1
          rcases List.mem_append.mp hm1 with g | g
          · rw [hno m g hm2] at hx
            cases hx
          · have e : m = st := List.mem_singleton.mp g
            rw [e, hy] at hx
            injection hx with hx
            rw [← hx]
            exact pB_irr y
        · refine ⟨_, rfl, rfl, _, rfl, ifn (by simp) ⟨_, rfl, x, dxz, _, rfl, sz5 _ _ oz, lk_chm _ _ _ _ (x := "is_better") (by decide +kernel), _, rfl, _, rfl, x, t, tb, c', rd, rk, f, rows, F, S2, y, yb, rfl, cz.same sz5, R, vt, hvb, fun H6 s6 => ⟨_, rfl, ?_⟩⟩⟩
          have sz6 := sz5.trans s6
          cases hb : pBb (rkS rows) y yb with
          | true =>
            have hb := pBb_iff.mp hb
            refine ifp rfl ⟨_, rfl, .ref t, _, _, _, _, rfl, sz6, .inr ⟨t, y, rfl, vt.tk fun _ _ q => s6 _ _ q, ⟨st, by rw [et]; exact List.mem_append_right _ List.mem_cons_self, hm, hy⟩, fun m hm1 hm2 x hx q => ?_⟩⟩
            rw [et] at hm1
            rcases List.mem_append.mp hm1 with g | g
            · exact hbst m g hm2 x hx (pB_trans q hb)
            · have e : m = st := List.mem_singleton.mp g
              rw [e, hy] at hx
              injection hx with hx
              rw [← hx] at q
              exact pB_irr y q
          | false =>
            refine ifn (by decide) ⟨.ref tb, _, _, _, _, rfl, sz6, .inr ⟨tb, yb, rfl, hvb.tk fun _ _ q => s6 _ _ q, ?_, fun m hm1 hm2 x hx q => ?_⟩⟩
            · obtain ⟨m, q1, q2⟩ := hmb
              exact ⟨m, by rw [et]; exact List.mem_append_left _ q1, q2⟩
            · rw [et] at hm1
              rcases List.mem_append.mp hm1 with g | g
              · exact hbst m g hm2 x hx q
              · have e : m = st := List.mem_singleton.mp g
                rw [e, hy] at hx
                injection hx with hx
                rw [← hx] at q
                rw [pBb_iff.mpr q] at hb
                cases hb
      · have nm : st ∉ D.marks := fun h => c (decide_eq_true h)
        refine ifn (by decide) ⟨bv, _, _, _, _, rfl, sz5, ?_⟩
        rw [et]
        have sk : ∀ m ∈ (es.take j).map (·.1) ++ [st], m ∈ D.marks → m ∈ (es.take j).map (·.1) := fun m h1 h2 => by
          rcases List.mem_append.mp h1 with g | g
          · exact g
          · exact absurd (List.mem_singleton.mp g ▸ h2) nm
        rcases B5 with ⟨h1, h2⟩ | ⟨tb, yb, h1, h2, ⟨m, q1, q2⟩, h3⟩
        · exact .inl ⟨h1, fun m g1 g2 => h2 m (sk m g1 g2) g2⟩
        · exact .inr ⟨tb, yb, h1, h2, ⟨m, List.mem_append_left _ q1, q2⟩, fun m g1 g2 => h3 m (sk m g1 g2) g2⟩
    · rintro σ H3 ⟨bv, x6, x7, x8, x9, rfl, s3, B3⟩
      rw [lkv, List.take_length] at B3
      have inK : ∀ m y, Tt m = some y → m ∈ es.map (·.1) := fun m y h => hall m y h
      have s03 := sz.trans s3
      rcases B3 with ⟨rfl, hno⟩ | ⟨tb, yb, rfl, ⟨z, cs, q, hb1, hb2, hb3, hb4, hb5, hb6⟩, hmb, hbst⟩
      · refine ⟨_, rfl, rfl, _, rfl, ifp (by simp) (key H3 .non none s03 ⟨Tt, TS, fun m hm => ?_⟩ rfl)⟩
        cases ht : Tt m with
        | none => rfl
        | some y => rw [hno m (inK m y ht) hm] at ht; cases ht
      · have c3 := cz.same s3
        obtain ⟨dxf3, of3⟩ := c3.f.o
        refine ⟨_, rfl, rfl, _, rfl, ifn (by simp) ?_⟩
        obtain ⟨a1, a2, a3, a4, a5, a6⟩ := c3.ok.add (z := z) (cs := cs) hb5 hb4 hb3
        have w3 := wR_le R z
        refine ⟨_, rfl, _, rfl, tb, _, _, _, rfl, rfl, SqT.of hb1, atI_nat (j := 0) rfl, _, rfl, f, dxf3, _, rfl, of3, lk_node F, _, rfl, tb, _, _, _, rfl, rfl, SqT.of hb1, atI_nat (j := 2) rfl, _, rfl, tb, _, _, _, rfl, rfl, SqT.of hb1, atI_nat (j := 3) rfl, ?_⟩
        refine ⟨f, q, F, (.inr z, cs), S2.ns, S2.zs, S2.cs, rfl, c3.f, hb2, hb3, by show cs.length ≤ 1000; omega, by omega, fun H9 k9 => ⟨fun i hi O => ?_, fun hn O => ?_⟩⟩
        · rw [FS.add_some hi] at a1 a2 a3 a4 a5 a6
          have a1 : FoOk rows S2 := a1
          have a3 : trS S2.ns i = z :: catS S2.ns cs := a3
          have a4 : i < S2.ns.length := a4
          have O : ForS P w CF H9 f F S2 := O
          have sH9 : Same H H9 := fun a o h => by
            have h1 := s03 a o h
            exact k9 a o h1 (fun e => by rw [e, back nd] at h; cases h) (fun e => by rw [e, back nl] at h; cases h) (fun e => by rw [e, back nb] at h; cases h) (fun e => by rw [e, back nz] at h; cases h) (fun e => by rw [e, back nc] at h; cases h)
          refine ⟨le_line (show 3 ≤ 10000000 by decide), fun t ht => ?_⟩
          have s10 := (Same.refl H9).upd_new (o := .tup [.ref f, .int yb.1, .int ((i : Nat) : Int)]) ht
          refine key _ (.ref t) (some yb) (sH9.trans s10) ⟨Tt, TS, ?_, fun m hm x hx => hbst m (inK m x hx) hm x hx⟩ ⟨t, f, i, F, S2, rfl, upd_same, ForAt.same O s10, a1, a4, by rw [a3, hb6]⟩
          obtain ⟨m, _, q2, q3⟩ := hmb
          exact ⟨m, q2, q3⟩
        · rw [FS.add_none hn] at a1 a2 a3 a4 a5 a6
          obtain ⟨S3, hS3⟩ : ∃ S3 : FS, S3 = ⟨S2.ns ++ [(.inr z, cs)], S2.zs ++ [szN S2.zs (.inr z, cs)], S2.cs ++ [clN S2.cs (.inr z, cs)]⟩ := ⟨_, rfl⟩
          obtain ⟨r, hr0⟩ : ∃ r : Nat, r = S2.ns.length := ⟨_, rfl⟩
          rw [← hS3, ← hr0] at a1 a2 a3 a4 a5 a6
          rw [← hr0]
          have O : ForS P w CF H9 f F S3 := by rw [hS3]; exact O
          have a1 : FoOk rows S3 := a1
          have a3 : trS S3.ns r = z :: catS S2.ns cs := a3
          have a4 : r < S3.ns.length := a4
          have sH9 : Same H H9 := fun a o h => by
            have h1 := s03 a o h
            exact k9 a o h1 (fun e => by rw [e, back nd] at h; cases h) (fun e => by rw [e, back nl] at h; cases h) (fun e => by rw [e, back nb] at h; cases h) (fun e => by rw [e, back nz] at h; cases h) (fun e => by rw [e, back nc] at h; cases h)
          refine ⟨le_line (show 3 ≤ 10000000 by decide), fun t ht => ?_⟩
          have s10 := (Same.refl H9).upd_new (o := .tup [.ref f, .int yb.1, .int ((r : Nat) : Int)]) ht
          refine key _ (.ref t) (some yb) (sH9.trans s10) ⟨Tt, TS, ?_, fun m hm x hx => hbst m (inK m x hx) hm x hx⟩ ⟨t, f, r, F, S3, rfl, upd_same, ForAt.same O s10, a1, a4, by rw [a3, hb6]⟩
          obtain ⟨m, _, q2, q3⟩ := hmb
          exact ⟨m, q2, q3⟩
end
end Sh
end
section
set_option Elab.async false
set_option linter.all false
set_option maxRecDepth 100000
set_option maxHeartbeats 16000000
namespace Sh
open PySem PySem.Spec PyProof.Rows L2
open C8 (pss_cut tCut)
open Evl (ixN_nat)
theorem AnsIs.len {rows : List Row} {D : RdD} {cut : Int} {sws : List Swap} {r : Str → Nat} {l : List Str} {x : Cp} (R : ROk 4 rows) (O : D.Ok rows) (W : GoodB rows sws sws.length) (hn : ∀ z ∈ l, HasN rows z) (h : AnsIs rows D cut sws r l (some x)) : x.2.length ≤ l.length ∧ ∀ z ∈ x.2, HasN rows z := by
  obtain ⟨T, TS, ⟨m, _, hm⟩, _⟩ := h
  obtain ⟨ns, h1, h2⟩ := TS.ok R O W hn
  cases h1 with
  | @cons n ns _ _ k _ =>
    have := k.ln m x hm
    simp at h2
    exact ⟨by omega, k.nm m x hm⟩
def ChpDoes (rows : List Row) (D : RdD) (cut : Int) (sws : List Swap) (l : List Str) (A : XA) (H : Hp) (Q : VK) (E : XK) : Prop := match fault rows false l with
  | some i => Rz A E H (.plant i)
  | none => ∀ (H' : Hp) (v : V) (o : Option Cp), Same H H' → AnsIs rows D cut sws (rkS rows) l o → VAns H' v o → Q v H'
def spChp52 (C CP CR : Addr) (A : XA) : Sp := fun vs H Q E => ∃ (c p rd b : Addr) (cut : Int) (rows : List Row) (D : RdD) (sws : List Swap) (l : List Str), vs = [.ref c, .ref p, .ref rd] ∧ ROk 4 rows ∧ RdAt C CR H rd b rows D ∧ D.Ok rows ∧ PrcAt C CP H c rows cut sws ∧ GoodB rows sws sws.length ∧ sws.length ≤ 6 ∧ Tq H p (sV l) ∧ l.length ≤ 2000 ∧ ChpDoes rows D cut sws l A H Q E
abbrev N_cheapest : List Str := ["prices", "plant", "reader", "found", "forest", "total", "node"]
theorem sc_cheapest : FnScope N_cheapest ["prices", "plant", "reader"] (defScope s_cheapest) := ⟨rfl, rfl, rfl, by decide +kernel, rfl, by decide +kernel, by decide +kernel⟩
section
variable {P : Program} {w : World} {K : PySem.W.Frag} {mg : Str → Option Value} {base : Heap} {C CP CR CF : Addr} {A : XA}
theorem ok_chp52 (T : Bp mg) (BP : PrT K CP) (BR : RdT K CR) (c_check_beds : DefOk P w K mg base CX0 2 "check_beds" (spBedsU C)) (c_check_plant : DefOk P w K mg base (L2.CX P w) 3 "check_plant" (spChk C A false)) (c_cheapest_change : DefOk P w K mg base CX0 7 "cheapest_change" (spChpC P w C CP CR CF)) (c_entries_of : DefOk P w K mg base CX0 1 "entries_of" (spEntries P w CF)) (D : Def0 K mg "cheapest" s_cheapest) : DefOk P w K mg base (L2.CX P w) 8 "cheapest" (spChp52 C CP CR A) := by
  refine D.okX sc_cheapest (fun vs H Q E h => ?_) (fun _ _ _ _ _ _ us hl => match us, hl with | [_, _, _], _ => rfl) (fun f0 cdv A' outer s' H vs Q E hr h => ?_)
  · obtain ⟨c, p, rd, b, cut, rows, D, sws, l, rfl, _⟩ := h
    rfl
  · obtain ⟨c, p, rd, b', cut, rows, D, sws, l, rfl, R, hRd, Ok, hPr, W, l6, hp, ll, k⟩ := h
    have hu := hu_of hr
    obtain ⟨dp, b, qq, dt, uu, dd, hpp, hBed, _, _, _⟩ := id hPr
    obtain ⟨dr, dc, mt, dds, r1, r2, r3, r4⟩ := id hRd
    obtain ⟨g1, g2, g3, g4⟩ := rd_lk b' dc mt D.many D.rest
    refine ⟨_, (pss_cons (ps_expr (pe_d c_check_beds (hr.mono (by decide)) pass0 (pa_cons (pe_lst (pa_cons (pe_fld (pv 0) rfl) (pa_cons (pe_fld (pv 2) rfl) pa_nil))) pa_nil)))
      (pss_cons (ps_expr (pe_d c_check_plant (hr.mono (by decide)) (passes_call (takes_of rfl rfl rfl rfl) fun _ _ _ _ h => h) (pa_cons (pe_fld (pv 0) rfl) (pa_cons (pv 1) pa_nil))))
      (pss_cons (ps_set (i := 3) sc_cheapest.nd rfl (Or.inl rfl) (pe_d c_cheapest_change (hr.mono (by decide)) pass0 (pa_cons (pv 0) (pa_cons (pv 1) (pa_cons (pv 2) pa_nil)))))
      (pss_cons (ps_if (pt_cmpR op_isN (pv 3) pe_non (nomark _))
        (pss_one (ps_ret pe_non))
        pss_nil)
      (pss_cons (ps_asg (pv 3) (pg_tup (by rfl) (pgs_cons (pg_name (i := 4) sc_cheapest.nd rfl (Or.inl rfl)) (pgs_cons (pg_name (i := 5) sc_cheapest.nd rfl (Or.inl rfl)) (pgs_cons (pg_name (i := 6) sc_cheapest.nd rfl (Or.inl rfl)) pgs_nil)))))
      (pss_one (ps_ret (pe_tup (pa_cons (pv 5) (pa_cons (pe_d c_entries_of (hr.mono (by decide)) pass0 (pa_cons (pv 4) (pa_cons (pv 6) pa_nil))) pa_nil)))))))))), ?_⟩
    refine ⟨_, rfl, c, CP, dp, _, _, rfl, hpp, BP.cl, BP.nB, prl_bed _ _ _ _, _, rfl, rd, CR, dr, _, _, rfl, r1, BR.cl, BR.nB, g4, le_line (show 2 ≤ 10000000 by decide), fun L hL => ?_⟩
    have s1 := (Same.refl H).upd_new (o := .lst [.ref b, .ref b']) hL
    have L1 : (upd H L (.lst [.ref b, .ref b'])) L = some (.lst (([b, b'] : List Addr).map V.ref)) := upd_same
    generalize upd H L (.lst [.ref b, .ref b']) = H1 at s1 L1
    refine ⟨L, [b, b'], rows, rfl, L1, fun x hx => ?_, R.up, (show 2 ≤ 1000 by decide), fun H2 s2 => ?_⟩
    · rcases List.mem_cons.mp hx with rfl | hx
      · exact hBed.same s1
      · rw [List.mem_singleton.mp hx]
        exact r2.same s1
    have s02 := s1.trans s2
    refine ⟨_, rfl, c, CP, dp, _, _, rfl, s02 _ _ hpp, BP.cl, BP.nB, prl_bed _ _ _ _, _, rfl, b, p, rows, l, rfl, hBed.same s02, R.up, hp.same s02, by omega, ?_⟩
    unfold ChpDoes at k
    rw [due_lenU ll]
    cases fl : fault rows false l with
    | some i =>
      rw [fl] at k
      exact Rz.same k s02
    | none =>
    rw [fl] at k
    intro H3 s3
    have s03 := s02.trans s3
    have OL := ok_of_faultU R ll fl
    refine ⟨_, rfl, _, rfl, _, rfl, c, p, rd, cut, rows, D, sws, l, rfl, R, (hRd.same s03).x, Ok, hPr.same s03, W, l6, hp.same s03, OL, fun H4 v o s4 ha hv => ?_⟩
    have s04 := s03.trans s4
    cases o with
    | none =>
      have hv : v = .non := hv
      subst hv
      exact ⟨_, rfl, rfl, _, rfl, ifp (by simp) (k H4 .non none s04 ha rfl)⟩
    | some x =>
      obtain ⟨q, f, n, F, S, rfl, hq, hF, Fo, hn, ht⟩ := hv
      obtain ⟨lx, nx⟩ := ha.len R Ok W OL.k
      refine ⟨_, rfl, rfl, _, rfl, ifn (by simp) ?_⟩
      refine ⟨_, rfl, q, _, rfl, SqT.of hq, rfl, _, _, rfl, _, _, rfl, _, _, rfl, rfl, ?_⟩
      refine ⟨_, rfl, _, rfl, _, rfl, f, F, S, rows, n, rfl, hF, Fo.W, fun m hm => ?_, R.up, hn, ?_, fun H5 r s5 hr5 => ⟨le_line (show 2 ≤ 10000000 by decide), fun t ht5 => ?_⟩⟩
      · obtain ⟨z, h1, _, h3⟩ := Fo.A m hm
        rw [h3, h1]
        rfl
      · rw [Fo.inr n hn, List.length_map, ht]
        omega
      · have e : kvs (tr S.ns n) = sV x.2 := by
          rw [Fo.inr n hn, ht]
          unfold kvs sV
          rw [List.map_map]
          rfl
        rw [e] at hr5
        have s6 := (Same.refl H5).upd_new (o := .tup [.int x.1, .ref r]) ht5
        exact k _ (.ref t) (some x) ((s04.trans s5).trans s6) ha ⟨t, rfl, r, upd_same, hr5.same s6⟩
end
theorem tyx_tup {K : PySem.W.Frag} {H : Hp} {a : Addr} {xs : List V} (h : Tq H a xs) : TyX K H (.ref a) (.type "tuple") := by
  rcases h with h | ⟨o, h⟩
  · exact .base (.tup h)
  · exact .fTuple h
theorem eqv_str : ∀ l : List Str, PyData.eqvAll (l.map PyData.str) (l.map PyData.str) = true
  | [] => rfl
  | z :: l => by
    rw [List.map_cons, PyData.eqvAll, eqv_str l, Bool.and_true]
    simp [PyData.eqv]
theorem dpa_str {K : PySem.W.Frag} {H : Hp} (l : List Str) : DpAll K H (sV l) (l.map PyData.str) := by
  induction l with
  | nil => exact .nil
  | cons z l ih => exact .cons (.str z) ih
theorem lay_strsU {l : List Str} (h : ∀ z ∈ l, PyData.strOk z = true) : PyData.canLayAll0 (l.map PyData.str) = true ∧ PyData.depthAll (l.map PyData.str) = 0 := by
  induction l with
  | nil => exact ⟨rfl, rfl⟩
  | cons z l ih =>
    obtain ⟨a, b⟩ := ih fun z hz => h z (List.mem_cons_of_mem _ hz)
    refine ⟨by simp [PyData.canLayAll0, PyData.canLay0, a, h z List.mem_cons_self], ?_⟩
    show max (PyData.depth (.str z)) (PyData.depthAll (l.map PyData.str)) = 0
    rw [b]
    simp [PyData.depth]
theorem shp_ans {i : Int} {l : List Str} (h : ∀ z ∈ l, PyData.strOk z = true) : SeqAt.shaped (.tuple [.int i, .tuple (l.map PyData.str)]) = true := shp_tup (shp_of fun d hd => by
  obtain ⟨a, b⟩ := lay_strsU h
  rcases List.mem_cons.mp hd with rfl | hd
  · exact ⟨by simp [PyData.canLay0], by simp [PyData.depth]⟩
  · rw [List.mem_singleton.mp hd]
    refine ⟨by simp [PyData.canLay0, a], ?_⟩
    show PyData.depthAll (l.map PyData.str) + 1 ≤ 63
    rw [b]
    decide)
def spTold52 (C CP CR : Addr) : Sp := fun vs H Q _ => ∃ (c p rd b : Addr) (cut : Int) (rows : List Row) (D : RdD) (sws : List Swap) (l : List Str), vs = [.ref c, .ref p, .ref rd] ∧ ROk 4 rows ∧ RdAt C CR H rd b rows D ∧ D.Ok rows ∧ PrcAt C CP H c rows cut sws ∧ GoodB rows sws sws.length ∧ sws.length ≤ 6 ∧ Tq H p (sV l) ∧ l.length ≤ 2000 ∧ ∀ H' q, Same H H' → DuIs rows D cut sws l H' q → Q (.ref q) H'
def spRight52 (C CP CR : Addr) : Sp := fun vs H Q _ => ∃ (c p rd b q : Addr) (cut : Int) (rows : List Row) (D : RdD) (sws : List Swap) (l : List Str), vs = [.ref c, .ref p, .ref rd, .ref q] ∧ ROk 4 rows ∧ RdAt C CR H rd b rows D ∧ D.Ok rows ∧ PrcAt C CP H c rows cut sws ∧ GoodB rows sws sws.length ∧ sws.length ≤ 6 ∧ Tq H p (sV l) ∧ l.length ≤ 2000 ∧ DuIs rows D cut sws l H q ∧ ∀ H', Same H H' → Q (.bl true) H'
abbrev N_law_told : List Str := ["prices", "plant", "made", "found", "e"]
theorem sc_law_told : FnScope N_law_told ["prices", "plant", "made"] (defScope s_law_told) := ⟨rfl, rfl, rfl, by decide +kernel, rfl, by decide +kernel, by decide +kernel⟩
abbrev N_law_right : List Str := ["prices", "plant", "made", "due", "told"]
theorem sc_law_right : FnScope N_law_right ["prices", "plant", "made", "due"] (defScope s_law_right) := ⟨rfl, rfl, rfl, by decide +kernel, rfl, by decide +kernel, by decide +kernel⟩
section
variable {P : Program} {w : World} {K : PySem.W.Frag} {mg : Str → Option Value} {base : Heap} {C CP CR CY AI : Addr} {A : XA}
theorem ok_told52 (T : Bp mg) (x : XP P w K mg A AI) (xc : XcP K mg A AI CY) (c_cheapest : DefOk P w K mg base (L2.CX P w) 8 "cheapest" (spChp52 C CP CR A)) (D : Def0 K mg "_law_told" s_law_told) : DefOk P w K mg base CX0 9 "_law_told" (spTold52 C CP CR) := by
  refine D.ok sc_law_told (fun vs H Q E h => ?_) (fun _ _ _ _ _ _ us hl => match us, hl with | [_, _, _], _ => rfl) (fun f cdv A' outer s H vs Q E hr h => ?_)
  · obtain ⟨c, p, rd, b, cut, rows, D, sws, l, rfl, _⟩ := h
    rfl
  · obtain ⟨c, p, rd, b, cut, rows, D, sws, l, rfl, R, hRd, Ok, hPr, W, l6, hp, ll, k⟩ := h
    have n_InvalidPlant : ∀ {X : Cx}, X.mg = mg → Gl X "InvalidPlant" → Names X "InvalidPlant" (.ref A.P) := fun e g => ⟨g, by decide, .inl (by rw [e]; exact x.xs.xP.gC)⟩
    have X_InvalidPlant := xc.oP
    refine ⟨_, (pss_cons (ps_try_first (i := 4) rfl rfl sc_law_told.nd rfl rfl (n_InvalidPlant rfl rfl) (fun W pn xe tk po => (pss_one (ps_set (i := 3) sc_law_told.nd rfl (Or.inl rfl) (pe_dS c_cheapest (hr.mono (by decide)) (fun _ => passAt tk _) (pa_cons (pv 0) (pa_cons (pv 1) (pa_cons (pv 2) pa_nil))))))) (fun a oe cls d pn hz hf => (pss_one (ps_ret (pe_tup (pa_cons pe_str (pa_cons (pe_xf X_InvalidPlant.xf (X_InvalidPlant.no "place" (by decide +kernel)) hz hf (pv 4)) pa_nil)))))))
      (pss_one (ps_ret (pe_tup (pa_cons pe_str (pa_cons (pv 3) pa_nil)))))), ?_⟩
    refine ⟨_, rfl, _, rfl, _, rfl, c, p, rd, b, cut, rows, D, sws, l, rfl, R, hRd, Ok, hPr, W, l6, hp, ll, ?_⟩
    unfold ChpDoes
    unfold DuIs at k
    have lp : ∀ i : Nat, (Ex.plant i).fs.lookup ("place" : Str) = some (.int (i : Nat)) := fun i => by simp [Ex.fs, xfs, List.lookup]
    revert k
    cases fault rows false l with
    | some i =>
      intro k
      refine fun H1 d s1 hd => ⟨X_InvalidPlant.me, fun a ha => ?_⟩
      have s2 := s1.upd_new (o := .xd (Ex.plant i).fs) hd
      refine ⟨_, rfl, rfl, rfl, d, _, _, rfl, upd_same, lp i, le_line (show 2 ≤ 10000000 by decide), fun q hq => ?_⟩
      exact k _ q (s2.upd_new hq) upd_same
    | none =>
      intro k H1 v o s1 ha hv
      refine ⟨_, rfl, le_line (show 2 ≤ 10000000 by decide), fun q hq => ?_⟩
      exact k _ q (s1.upd_new hq) ⟨o, v, ha, hv.same ((Same.refl H1).upd_new hq), upd_same⟩
theorem ok_right52 (T : Bp mg) (c_law_told : DefOk P w K mg base CX0 9 "_law_told" (spTold52 C CP CR)) (c_law_integer : DefOk P w K mg base CX0 1 "_law_integer" spInteger51) (D : Def0 K mg "_law_right" s_law_right) : DefOk P w K mg base CX0 10 "_law_right" (spRight52 C CP CR) := by
  refine D.ok sc_law_right (fun vs H Q E h => ?_) (fun _ _ _ _ _ _ us hl => match us, hl with | [_, _, _, _], _ => rfl) (fun f cdv A' outer s H vs Q E hr h => ?_)
  · obtain ⟨c, p, rd, b, q, cut, rows, D, sws, l, rfl, _⟩ := h
    rfl
  · obtain ⟨c, p, rd, b, q, cut, rows, D, sws, l, rfl, R, hRd, Ok, hPr, W, l6, hp, ll, hq, k⟩ := h
    refine ⟨_, (pss_cons (ps_set (i := 4) sc_law_right.nd rfl (Or.inl rfl) (pe_d c_law_told (hr.mono (by decide)) pass0 (pa_cons (pv 0) (pa_cons (pv 1) (pa_cons (pv 2) pa_nil)))))
      (pss_cons (ps_if (pt_cmpR op_ne (pe_ix ix_tup (pv 4) pe_int (fun _ _ => rfl)) (pe_ix ix_tup (pv 3) pe_int (fun _ _ => rfl)) (nomark _))
        (pss_one (ps_ret pe_bl))
        pss_nil)
      (pss_cons (ps_if (pt_cmpR op_eq (pe_ix ix_tup (pv 3) pe_int (fun _ _ => rfl)) pe_str (nomark _))
        (pss_one (ps_ret (pe_and (pe_d c_law_integer (hr.mono (by decide)) pass0 (pa_cons (pe_ix ix_tup (pv 4) pe_int (fun _ _ => rfl)) pa_nil)) (pe_one (pe_cmpR op_eq (pe_ix ix_tup (pv 4) pe_int (fun _ _ => rfl)) (pe_ix ix_tup (pv 3) pe_int (fun _ _ => rfl)) (nomark _))))))
        pss_nil)
      (pss_cons (ps_if (pt_cmpR op_isN (pe_ix ix_tup (pv 3) pe_int (fun _ _ => rfl)) pe_non (nomark _))
        (pss_one (ps_ret (pe_cmpR op_isN (pe_ix ix_tup (pv 4) pe_int (fun _ _ => rfl)) pe_non (nomark _))))
        pss_nil)
      (pss_cons (ps_if (PW.pt (pw_or (pt_not (pt_val (pe_callB call_isi (by rfl) T.b_isinstance (by decide +kernel) (pa_cons (pe_ix ix_tup (pv 4) pe_int (fun _ _ => rfl)) (pa_cons (pe_bltn (v := .ty "tuple") (by rfl) T.b_tuple boot_tuple rfl) pa_nil))))) (pw_or (pt_cmpR op_ne (pe_callB call_len_seq (by rfl) T.b_len boot_len (pa_cons (pe_ix ix_tup (pv 4) pe_int (fun _ _ => rfl)) pa_nil)) pe_int (nomark _)) (pw_or1 (pt_not (pt_val (pe_callB call_isi (by rfl) T.b_isinstance (by decide +kernel) (pa_cons (pe_ix ix_tup (pe_ix ix_tup (pv 4) pe_int (fun _ _ => rfl)) pe_int (fun _ _ => rfl)) (pa_cons (pe_bltn (v := .ty "tuple") (by rfl) T.b_tuple boot_tuple rfl) pa_nil)))))))))
        (pss_one (ps_ret pe_bl))
        pss_nil)
      (pss_one (ps_ret (pe_and (pe_d c_law_integer (hr.mono (by decide)) pass0 (pa_cons (pe_ix ix_tup (pe_ix ix_tup (pv 4) pe_int (fun _ _ => rfl)) pe_int (fun _ _ => rfl)) pa_nil)) (pe_one (pe_cmpR (op_eqD hr.units) (pe_ix ix_tup (pv 4) pe_int (fun _ _ => rfl)) (pe_ix ix_tup (pv 3) pe_int (fun _ _ => rfl)) (nomark _))))))))))), ?_⟩
    refine ⟨_, rfl, _, rfl, _, rfl, c, p, rd, b, cut, rows, D, sws, l, rfl, R, hRd, Ok, hPr, W, l6, hp, ll, fun H1 t s1 ht => ?_⟩
    have hq1 := hq.same s1
    have k := k H1 s1
    unfold DuIs at ht hq1
    cases fl : fault rows false l with
    | some i =>
      rw [fl] at ht hq1
      refine ⟨_, rfl, t, _, _, _, rfl, rfl, SqT.of ht, atI_nat (j := 0) rfl, _, rfl, q, _, _, _, rfl, rfl, SqT.of hq1, atI_nat (j := 0) rfl, rfl, _, rfl, ifn (by simp) ?_⟩
      refine ⟨_, rfl, q, _, _, _, rfl, rfl, SqT.of hq1, atI_nat (j := 0) rfl, rfl, _, rfl, ifp (by simp) ?_⟩
      refine ⟨_, rfl, t, _, _, _, rfl, rfl, SqT.of ht, atI_nat (j := 1) rfl, i, rfl, _, rfl, ifp rfl ?_⟩
      refine ⟨_, rfl, t, _, _, _, rfl, rfl, SqT.of ht, atI_nat (j := 1) rfl, _, rfl, q, _, _, _, rfl, rfl, SqT.of hq1, atI_nat (j := 1) rfl, rfl, ?_⟩
      simpa using k
    | none =>
      rw [fl] at ht hq1
      obtain ⟨o, v, h1, h2, h3⟩ := ht
      obtain ⟨o', v', h1', h2', h3'⟩ := hq1
      have OL := ok_of_faultU R ll fl
      have eo := h1.uniq R Ok W rkS_inj OL.k h1'
      subst eo
      refine ⟨_, rfl, t, _, _, _, rfl, rfl, SqT.of h3, atI_nat (j := 0) rfl, _, rfl, q, _, _, _, rfl, rfl, SqT.of h3', atI_nat (j := 0) rfl, rfl, _, rfl, ifn (by simp) ?_⟩
      refine ⟨_, rfl, q, _, _, _, rfl, rfl, SqT.of h3', atI_nat (j := 0) rfl, rfl, _, rfl, ifn (by simp; decide +kernel) ?_⟩
      refine ⟨_, rfl, q, _, _, _, rfl, rfl, SqT.of h3', atI_nat (j := 1) rfl, rfl, _, rfl, ?_⟩
      cases o with
      | none =>
        have h2 : v = .non := h2
        have h2' : v' = .non := h2'
        subst h2 h2'
        refine ifp (by simp) ⟨_, rfl, t, _, _, _, rfl, rfl, SqT.of h3, atI_nat (j := 1) rfl, rfl, ?_⟩
        simpa using k
      | some x =>
        obtain ⟨u, rfl, r, g1, g2⟩ := h2
        obtain ⟨u', rfl, r', g1', g2'⟩ := h2'
        obtain ⟨lx, nx⟩ := h1.len R Ok W OL.k
        refine ifn (by simp) ?_
        refine ⟨_, rfl, t, _, _, _, rfl, rfl, SqT.of h3, atI_nat (j := 1) rfl, _, _, _, _, true, rfl, .ty _, tyx_tup (.of g1), rfl, _, rfl, ifn (by decide) ?_⟩
        refine ⟨_, rfl, t, _, _, _, rfl, rfl, SqT.of h3, atI_nat (j := 1) rfl, u, _, rfl, .inr (SqT.of g1), rfl, _, rfl, ifn (by simp) ?_⟩
        refine ⟨_, rfl, t, _, _, _, rfl, rfl, SqT.of h3, atI_nat (j := 1) rfl, u, _, _, _, rfl, rfl, SqT.of g1, atI_nat (j := 1) rfl, _, _, _, _, true, rfl, .ty _, tyx_tup g2, rfl, _, rfl, ifn (by decide) ?_⟩
        refine ⟨_, rfl, t, _, _, _, rfl, rfl, SqT.of h3, atI_nat (j := 1) rfl, u, _, _, _, rfl, rfl, SqT.of g1, atI_nat (j := 0) rfl, x.1, rfl, _, rfl, ifp rfl ?_⟩
        refine ⟨_, rfl, t, _, _, _, rfl, rfl, SqT.of h3, atI_nat (j := 1) rfl, _, rfl, q, _, _, _, rfl, rfl, SqT.of h3', atI_nat (j := 1) rfl, ?_⟩
        have so : SeqAt.shaped (.tuple [.int x.1, .tuple (x.2.map PyData.str)]) = true := shp_ans fun z hz => by
          obtain ⟨q0, hq0, rfl⟩ := nx z hz
          exact nm_ok (R.nm q0 hq0)
        refine ⟨.tuple [.int x.1, .tuple (x.2.map PyData.str)], .tuple [.int x.1, .tuple (x.2.map PyData.str)], .tup (SqT.of g1) (.cons (.int _) (.cons (.tup g2.sq (dpa_str _)) .nil)), .tup (SqT.of g1') (.cons (.int _) (.cons (.tup g2'.sq (dpa_str _)) .nil)), so, so, ?_⟩
        have e : PyData.eqv (.tuple [.int x.1, .tuple (x.2.map PyData.str)]) (.tuple [.int x.1, .tuple (x.2.map PyData.str)]) = true := by
          rw [PyData.eqv, PyData.eqvAll, PyData.eqvAll, PyData.eqvAll, PyData.eqv, PyData.eqv, eqv_str]
          simp
        rw [e]
        exact k
end
end Sh
end
section
set_option Elab.async false
set_option linter.all false
set_option maxRecDepth 100000
set_option maxHeartbeats 16000000
namespace Sh
open PySem PySem.Spec PyProof.Rows L2
open C8 (pss_cut tCut)
open Evl (ixN_nat)
def spLaw (K : PySem.W.Frag) : Sp := fun vs H Q _ => ∃ (s : Addr) (ns : List Int), vs = [.ref s] ∧ SqL K H s (ns.map V.int) ∧ ns.length ≤ 63 ∧ ∀ H', Q (.bl true) H'
theorem fnOk0 {P : Program} {w : World} {K : PySem.W.Frag} {mg : Str → Option Value} {base : Heap} {k : Nat} {x : Str} {sp : Sp} {st : Stmt} {N ps : List Str} {f0 : Addr} {fd : FuncData} (F : FunD K x x (defArgs st) (defBody st) (defScope st) [] [] f0 fd) (S : FnScope N ps (defScope st)) (len : ∀ vs H Q E, sp vs H Q E → vs.length = ps.length)
    (hbody : ∀ (cdv : Value) (A : Around) (outer : List Env) (s : Shared) (H : Hp) (vs : List V) (Q : VK) (E : XK), Room k (A.deeper (envOfC x (defScope st) s.heap.objs.size f0 cdv)) → sp vs H Q E →
      ∃ t, PSs (cxOf CX0 P w K mg base N x (defScope st) f0 cdv A outer s H E).nox (defBody st) t ∧ t { nx := fun _ H' => Q .non H', rt := Q } (start N vs) H) : FnOk P w K mg base CX0 (k + 1) f0 fd ps sp :=
  F.ok S len fun cdv A outer s H vs Q E hr h => by
    obtain ⟨t, a, b⟩ := hbody cdv A outer s H vs Q E hr h
    exact ⟨t, a.nox, b⟩
/-- the script stays -/
theorem sqk {K : PySem.W.Frag} {H H' : Hp} {s : Addr} {xs : List V} (h : SqL K H s xs) (k : ∀ o, H s = some o → H' s = some o) : SqL K H' s xs := by
  rcases h with (h | ⟨o, h⟩) | h
  · exact .inl (.inl (k _ h))
  · exact .inl (.inr ⟨o, k _ h⟩)
  · exact .inr h
theorem sqs {K : PySem.W.Frag} {H H' : Hp} {s : Addr} {xs : List V} (h : SqL K H s xs) (k : Same H H') : SqL K H' s xs := sqk h fun o e => k _ _ e
theorem sq_kp {K : PySem.W.Frag} {H H' : Hp} {s x : Addr} {xs : List V} (h : SqL K H s xs) (hx : H x = none) (k : Kp x H H') : SqL K H' s xs := sqk h fun o e => k _ _ e fun c => by rw [c, hx] at e; cases e
theorem SwOk.good {rows : List Row} {sws : List Swap} (W : SwOk rows sws) (R : ROk 4 rows) : GoodB rows sws sws.length := by
  rcases FstF.ok W R (Int.le_refl 0) (by decide) with ⟨h, _⟩ | ⟨_, _, _, h⟩ | ⟨_, _, i, q, h, _⟩
  · omega
  · exact h
  · omega
theorem SwOk.tail {rows : List Row} {sws : List Swap} (W : SwOk rows sws) : SwOk rows (sws.drop 1) := ⟨fun q hq => W.pr q (List.mem_of_mem_drop hq), by rw [List.map_drop]; exact W.nd.sublist (List.drop_sublist _ _), fun q hq => W.num q (List.mem_of_mem_drop hq), by rw [List.length_drop]; have := W.len; omega⟩
theorem SwsAt.tail {K : PySem.W.Frag} {H : Hp} {p : Addr} {sws : List Swap} {Q : VK} (h : SwsAt H p sws) (k : ∀ H' q, Same H H' → H p ≠ none → SwsAt H' q (sws.drop 1) → Q (.ref q) H') : rSlL K (.ref p) (some (1 : Int)) none H Q := by
  obtain ⟨ts, h1, h2⟩ := h
  refine ⟨p, _, rfl, SqL.of h1, fun q hq => ?_⟩
  have e1 : HT.sIx (ts.map V.ref).length 0 (some (1 : Int)) = min 1 (ts.map V.ref).length := by rw [show (some (1 : Int)) = some ((1 : Nat) : Int) from rfl, HT.sIx_nat]
  have hc : cutV (ts.map V.ref) (some (1 : Int)) none = (ts.drop 1).map V.ref := by
    unfold cutV
    rw [e1, List.map_drop]
    show ((ts.map V.ref).drop (min 1 (ts.map V.ref).length)).take ((ts.map V.ref).length - min 1 (ts.map V.ref).length) = _
    rw [List.take_of_length_le (by rw [List.length_drop]; exact Nat.le_refl _)]
    by_cases c : 1 ≤ (ts.map V.ref).length
    · rw [Nat.min_eq_left c]
    · rw [List.drop_of_length_le (by omega), List.drop_of_length_le (by omega)]
  rw [hc]
  have s := (Same.refl H).upd_new (o := .lst ((ts.drop 1).map V.ref)) hq
  exact k _ q s (by rw [h1]; exact fun e => nomatch e) ⟨ts.drop 1, upd_same, (h2.drop 1).keep fun t ys h => s _ _ h⟩
abbrev N_law : List Str := ["script", "kinds", "arity", "bed", "reader", "made", "box", "cutting", "later", "swaps", "prices", "second", "plants", "turn", "mine", "room", "plant"]
theorem sc_law : FnScope N_law ["script"] (defScope s_law) := ⟨rfl, rfl, rfl, by decide +kernel, rfl, by decide +kernel, by decide +kernel⟩
section
variable {P : Program} {w : World} {K : PySem.W.Frag} {mg : Str → Option Value} {base : Heap} {C CP CR AI : Addr}
theorem ok_law (T : Bp mg) (c_law_pick : DefOk P w K mg base CX0 1 "_law_pick" spPick51) (c_law_box : DefOk P w K mg base CX0 2 "_law_box" (spBox51 K)) (c_law_number : DefOk P w K mg base CX0 2 "_law_number" spNum51) (c_law_kinds : DefOk P w K mg base CX0 3 "_law_kinds" spKinds51) (c_law_arity : DefOk P w K mg base CX0 1 "_law_arity" spArity) (c_law_made_bed : DefOk P w K mg base CX0 7 "_law_made_bed" (spBed51 C)) (c_law_swaps : DefOk P w K mg base CX0 3 "_law_swaps" spSwaps51) (c_law_reader : DefOk P w K mg base CX0 2 "_law_reader" (spReader52 P w)) (c_law_made_reader : DefOk P w K mg base CX0 6 "_law_made_reader" (spMkRd52 P w C CR)) (c_law_made_prices : DefOk P w K mg base (L2.CX P w) 6 "_law_made_prices" (spMkPr C CP AI)) (c_law_plant : DefOk P w K mg base CX0 2 "_law_plant" spPlant51) (c_law_chain : DefOk P w K mg base CX0 2 "_law_chain" spChain51) (c_law_spoilt : DefOk P w K mg base CX0 2 "_law_spoilt" spSpoilt51) (c_law_due : DefOk P w K mg base CX0 4 "_law_due" (spDue52 P w)) (c_law_right : DefOk P w K mg base CX0 10 "_law_right" (spRight52 C CP CR)) {f0 : Addr} {fd : FuncData} (F0 : FunD K "law" "law" (defArgs s_law) (defBody s_law) (defScope s_law) [] [] f0 fd) : FnOk P w K mg base CX0 11 f0 fd ["script"] (spLaw K) := by
  refine fnOk0 F0 sc_law (fun vs H Q E h => ?_) (fun cdv A outer s H vs Q E hr h => ?_)
  · obtain ⟨sc, ns, rfl, _⟩ := h
    rfl
  · obtain ⟨sc, ns, rfl, hS, hn, k⟩ := h
    refine ⟨_, (pss_cons (ps_set (i := 1) sc_law.nd rfl (Or.inl rfl) (pe_d c_law_kinds (hr.mono (by decide)) pass0 (pa_cons (pe_d c_law_box (hr.mono (by decide)) pass0 (pa_cons (pv 0) (pa_cons pe_int pa_nil))) pa_nil)))
      (pss_cons (ps_set (i := 2) sc_law.nd rfl (Or.inl rfl) (pe_d c_law_arity (hr.mono (by decide)) pass0 (pa_cons (pv 1) pa_nil)))
      (pss_cons (ps_set (i := 3) sc_law.nd rfl (Or.inl rfl) (pe_d c_law_made_bed (hr.mono (by decide)) pass0 (pa_cons (pv 1) pa_nil)))
      (pss_cons (ps_set (i := 4) sc_law.nd rfl (Or.inl rfl) (pe_d c_law_reader (hr.mono (by decide)) pass0 (pa_cons (pe_d c_law_box (hr.mono (by decide)) pass0 (pa_cons (pv 0) (pa_cons pe_int pa_nil))) (pa_cons (pv 1) (pa_cons pe_int pa_nil)))))
      (pss_cons (ps_set (i := 5) sc_law.nd rfl (Or.inl rfl) (pe_d c_law_made_reader (hr.mono (by decide)) pass0 (pa_cons (pv 3) (pa_cons (pv 4) pa_nil))))
      (pss_cons (ps_set (i := 6) sc_law.nd rfl (Or.inl rfl) (pe_d c_law_box (hr.mono (by decide)) pass0 (pa_cons (pv 0) (pa_cons pe_int pa_nil))))
      (pss_cons (ps_set (i := 7) sc_law.nd rfl (Or.inl rfl) (pe_d c_law_number (hr.mono (by decide)) pass0 (pa_cons (pv 6) pa_nil)))
      (pss_cons (ps_set (i := 8) sc_law.nd rfl (Or.inl rfl) (pe_d c_law_number (hr.mono (by decide)) pass0 (pa_cons (pv 6) pa_nil)))
      (pss_cons (ps_set (i := 9) sc_law.nd rfl (Or.inl rfl) (pe_d c_law_swaps (hr.mono (by decide)) pass0 (pa_cons (pv 6) (pa_cons (pv 1) pa_nil))))
      (pss_cons (ps_set (i := 10) sc_law.nd rfl (Or.inl rfl) (pe_d c_law_made_prices (hr.mono (by decide)) passL (pa_cons (pv 3) (pa_cons (pv 7) (pa_cons (pv 9) pa_nil)))))
      (pss_cons (ps_set (i := 11) sc_law.nd rfl (Or.inl rfl) (pe_d c_law_made_prices (hr.mono (by decide)) passL (pa_cons (pv 3) (pa_cons (pv 8) (pa_cons (pe_slice sl_list (pv 9) (po_some pe_int) po_none) pa_nil)))))
      (pss_cons (ps_set (i := 12) sc_law.nd rfl (Or.inl rfl) (pe_lst pa_nil))
      (pss_cons (ps_for PassesOwn.never rfl (pi_range1 (by rfl) T.b_range (pa_cons pe_int pa_nil)) (pg_name (i := 13) sc_law.nd rfl (Or.inl rfl))
        (pss_cons (ps_set (i := 14) sc_law.nd rfl (Or.inl rfl) (pe_d c_law_box (hr.mono (by decide)) pass0 (pa_cons (pv 0) (pa_cons (pe_op op_add pe_int (pv 13)) pa_nil))))
        (pss_cons (ps_set (i := 15) sc_law.nd rfl (Or.inl rfl) (pe_op op_add pe_int (pe_d c_law_pick (hr.mono (by decide)) pass0 (pa_cons (pv 14) (pa_cons pe_int pa_nil)))))
        (pss_cons (ps_set (i := 16) sc_law.nd rfl (Or.inl rfl) (pe_d c_law_chain (hr.mono (by decide)) pass0 (pa_cons (pv 14) (pa_cons (pv 1) (pa_cons (pe_d c_law_plant (hr.mono (by decide)) pass0 (pa_cons (pv 14) (pa_cons (pv 1) (pa_cons (pv 15) pa_nil)))) (pa_cons pe_int pa_nil))))))
        (pss_cut (ps_if (pt_cmpR op_eq (pe_d c_law_pick (hr.mono (by decide)) pass0 (pa_cons (pv 14) (pa_cons pe_int pa_nil))) pe_int (nomark _))
          (pss_one (ps_set (i := 16) sc_law.nd rfl (Or.inl rfl) (pe_d c_law_spoilt (hr.mono (by decide)) pass0 (pa_cons (pv 14) (pa_cons (pv 1) (pa_cons (pv 16) pa_nil))))))
          pss_nil)
        (pss_one (ps_expr (pe_bm PySem.F.plainAttrs_list PySem.F.slot_list_append PySem.F.type_list_append mt_append (pv 12) (pa_cons (pv 16) pa_nil)))))))))
      (pss_cons (ps_expr (pe_bm PySem.F.plainAttrs_list PySem.F.slot_list_append PySem.F.type_list_append mt_append (pv 12) (pa_cons (pe_ix ix_list (pv 12) pe_int (fun _ _ => rfl)) pa_nil)))
      (pss_cons (ps_for PassesOwn.never rfl (pi_list (pv 12)) (pg_name (i := 16) sc_law.nd rfl (Or.inl rfl))
        (pss_cons (ps_if (pt_not (pt_val (pe_d c_law_right (hr.mono (by decide)) pass0 (pa_cons (pv 10) (pa_cons (pv 16) (pa_cons (pv 5) (pa_cons (pe_d c_law_due (hr.mono (by decide)) pass0 (pa_cons (pv 1) (pa_cons (pv 2) (pa_cons (pv 4) (pa_cons (pv 7) (pa_cons (pv 9) (pa_cons (pv 16) pa_nil))))))) pa_nil)))))))
          (pss_one (ps_ret pe_bl))
          pss_nil)
        (pss_one (ps_if (pt_not (pt_val (pe_d c_law_right (hr.mono (by decide)) pass0 (pa_cons (pv 11) (pa_cons (pv 16) (pa_cons (pv 5) (pa_cons (pe_d c_law_due (hr.mono (by decide)) pass0 (pa_cons (pv 1) (pa_cons (pv 2) (pa_cons (pv 4) (pa_cons (pv 8) (pa_cons (pe_slice sl_list (pv 9) (po_some pe_int) po_none) (pa_cons (pv 16) pa_nil))))))) pa_nil)))))))
          (pss_one (ps_ret pe_bl))
          pss_nil))))
      (pss_one (ps_ret pe_bl))))))))))))))))), ?_⟩
    refine ⟨_, rfl, sc, ns, 0, rfl, hS, fun H' s => sqs hS s, hn, by decide, fun H1 x0 s1 hx0 b1 => ?_⟩
    refine ⟨x0, rfl, b1, fun H2 r rows k2 b2 _ _ hR R => ?_⟩
    have k02 : Kp x0 H H2 := (Kp.same s1).trans k2
    have hS2 := sq_kp hS hx0 k02
    refine ⟨_, rfl, r, rows, rfl, hR, R, fun H3 ar s3 _ har => ?_⟩
    have R3 := hR.same s3
    refine ⟨_, rfl, r, rows, rfl, R3, R, fun H4 b s4 _ hB => ?_⟩
    have R4 := R3.same s4
    have ar4 := s4 _ _ har
    have hS4 := sqs (sqs hS2 s3) s4
    -- the reader
    refine ⟨_, rfl, sc, ns, 1, rfl, hS4, fun H' s => sqs hS4 s, hn, by decide, fun H5 x1 s5 hx1 b5 => ?_⟩
    refine ⟨_, rfl, x1, r, rows, rfl, b5, R4.same s5, R, fun H6 rd D k6 Ok hL => ?_⟩
    have s46 : Same H4 H6 := Same.kpd s5 hx1 k6
    refine ⟨_, rfl, _, rfl, b, rd, rows, D, rfl, hB.same s46, R, Ok, hL, fun H7 m s7 hRd => ?_⟩
    have s47 := s46.trans s7
    have R7 := R4.same s47
    have ar7 := s47 _ _ ar4
    have B7 := hB.same s47
    have hS7 := sqs hS4 s47
    have L7 := hL.same s7
    -- the prices
    refine ⟨_, rfl, sc, ns, 2, rfl, hS7, fun H' s => sqs hS7 s, hn, by decide, fun H8 x2 s8 hx2 b8 => ?_⟩
    refine ⟨_, rfl, x2, rfl, b8, fun H9 cut k9 b9 cut0 cut1 => ?_⟩
    refine ⟨_, rfl, x2, rfl, b9, fun H10 lat k10 b10 lat0 lat1 => ?_⟩
    have s710 : Same H7 H10 := Same.kpd s8 hx2 (k9.trans k10)
    refine ⟨_, rfl, _, rfl, x2, r, rows, rfl, b10, R7.same s710, R, fun H11 sl sws k11 b11 _ W11 W => ?_⟩
    have s711 : Same H7 H11 := Same.kpd s8 hx2 ((k9.trans k10).trans k11)
    have good := W.good R
    have goodT := W.tail.good R
    have wl := W.len
    have wlt := W.tail.len
    have ok : ∀ {c : Int} {s : List Swap} {H' : Hp} {Qz : VK}, SwOk rows s → 0 ≤ c → c ≤ 1000 → (∀ (H'' : Hp) (p : Addr), Same H' H'' → H' p = none → PrcAt C CP H'' p rows c s → Qz (.ref p) H'') → PrcE C CP AI rows c s H' Qz E0 := fun W' h0 h1 h => ⟨fun e he hne => absurd (he.uniq (FstF.ok W' R h0 h1)) hne, fun _ => h⟩
    refine ⟨_, rfl, _, rfl, _, rfl, b, sl, cut, rows, sws, rfl, W11, B7.same s711, R, by omega, ok W cut0 cut1 fun H12 c1 s12 _ C1 => ?_⟩
    have s712 := s711.trans s12
    have W12 := W11.same s12
    refine ⟨_, rfl, _, rfl, _, rfl, _, rfl, ?_⟩
    unfold tNoPart
    refine SwsAt.tail W12 fun H13 st s13 _ W13 => ?_
    have s713 := s712.trans s13
    refine ⟨b, st, lat, rows, sws.drop 1, rfl, W13, B7.same s713, R, by omega, ok W.tail lat0 lat1 fun H14 c2 s14 _ C2 => ?_⟩
    have s714 := s713.trans s14
    have C1' := C1.same (s13.trans s14)
    have W14 := (W12.same s13).same s14
    refine ⟨le_line (show 0 ≤ 10000000 by decide), fun PL hPL => ?_⟩
    have s15 := (Same.refl H14).upd_new (o := .lst []) hPL
    have P15 : (upd H14 PL (.lst [])) PL = some (.lst (([] : List Addr).map V.ref)) := upd_same
    generalize upd H14 PL (.lst []) = H15 at s15 P15
    have s715 := s714.trans s15
    refine ⟨_, rfl, by decide, by decide, for_range (n := (2 : Int).toNat) (fun i σ H' => ∃ (y13 y14 y15 y16 : Option V) (us : List Addr), σ = [some (.ref sc), some (.ref r), some (.ref ar), some (.ref b), some (.ref rd), some (.ref m), some (.ref x2), some (.int cut), some (.int lat), some (.ref sl), some (.ref c1), some (.ref c2), some (.ref PL), y13, y14, y15, y16] ∧ Same H14 H' ∧ H' PL = some (.lst (us.map V.ref)) ∧ us.length = i ∧ ∀ u ∈ us, ∃ l, Tq H' u (sV l) ∧ l.length ≤ 2000)
      ⟨none, none, none, none, [], rfl, s15, P15, rfl, fun u h => (nomatch h)⟩ ?_ ?_⟩
    · rintro i σ H16 hi ⟨y13, y14, y15, y16, us, rfl, s16, P16, lu, A16⟩
      have hi2 : i < 2 := hi
      have s716 := s714.trans s16
      have hS16 := sqs hS7 s716
      refine ⟨_, rfl, _, rfl, _, _, rfl, rfl, sc, ns, 3 + i, ?_, hS16, fun H' s => sqs hS16 s, hn, by omega, fun H17 x s17 hx b17 => ?_⟩
      · show [V.ref sc, V.int (3 + (0 + ((i : Nat) : Int)))] = [V.ref sc, V.int ((3 + i : Nat) : Int)]
        rw [show (3 : Int) + (0 + ((i : Nat) : Int)) = ((3 + i : Nat) : Int) by omega]
      refine ⟨_, rfl, x, 9, rfl, b17, by decide, by decide, fun H18 d k18 b18 d0 d1 => ⟨_, _, rfl, rfl, ?_⟩⟩
      have er : 1 + d = ((1 + d.toNat : Nat) : Int) := by omega
      have R17 := (R7.same s716).same s17
      have R18 := R17.kp b17 k18
      have up9 : ∀ {m : Nat} {l : List Str}, m ≤ 9 → KsOk rows m l → KsOk rows 9 l := fun h q => ⟨q.1, Nat.le_trans q.2.1 h, q.2.2⟩
      refine ⟨_, rfl, _, rfl, _, rfl, _, rfl, _, rfl, x, r, 1 + d.toNat, rows, by show [V.ref x, V.ref r, V.int (1 + d)] = _; rw [er], b18, R18, R, by omega, by omega, fun H19 p0 l0 k19 b19 t19 K19 => ?_⟩
      have R19 := R18.kp b18 k19
      refine ⟨x, r, p0, rows, l0, rfl, b19, R19, R, t19, up9 (by omega) K19, fun H20 p1 l1 k20 b20 t20 K20 => ?_⟩
      have R20 := R19.kp b19 k20
      have k1720 := (k18.trans k19).trans k20
      refine ⟨fun σ H' => ∃ (p : Addr) (l : List Str), σ = [some (.ref sc), some (.ref r), some (.ref ar), some (.ref b), some (.ref rd), some (.ref m), some (.ref x2), some (.int cut), some (.int lat), some (.ref sl), some (.ref c1), some (.ref c2), some (.ref PL), some (.int (0 + ((i : Nat) : Int))), some (.ref x), some (.int (1 + d)), some (.ref p)] ∧ Kp x H17 H' ∧ Tq H' p (sV l) ∧ l.length ≤ 2000, ?_, ?_⟩
      · refine ⟨_, rfl, x, 8, rfl, b20, by decide, by decide, fun H21 e k21 b21 _ _ => ⟨rfl, _, rfl, ite2 (fun _ => ?_) (fun _ => ⟨p1, l1, rfl, k1720.trans k21, tqk t20 b20 k21, by have := K20.2.1; omega⟩)⟩⟩
        refine ⟨_, rfl, _, rfl, _, rfl, x, r, p1, rows, l1, rfl, b21, R20.kp b20 k21, R, tqk t20 b20 k21, K20.1, K20.2.1, fun H22 p' l' k22 b22 t22 l22 => ⟨p', l', rfl, (k1720.trans k21).trans k22, t22, by omega⟩⟩
      rintro σ H21 ⟨p, l, rfl, k21, t21, ll⟩
      have s1621 : Same H16 H21 := Same.kpd s17 hx k21
      have P21 := s1621 _ _ P16
      refine ⟨_, rfl, .inl ⟨rfl, _, SqL.of P21⟩, _, rfl, PL, _, _, rfl, rfl, P21, by rw [List.length_map, lu]; exact lt_line (by omega), ?_⟩
      refine ⟨_, _, _, _, us ++ [p], rfl, (s16.trans s1621).upd_own hPL, by rw [upd_same, List.map_append]; rfl, by rw [List.length_append, lu]; rfl, fun u hu => ?_⟩
      rcases List.mem_append.mp hu with g | g
      · obtain ⟨l', q1, q2⟩ := A16 u g
        exact ⟨l', tq_updl (q1.same s1621) P21, q2⟩
      · rw [List.mem_singleton.mp g]
        exact ⟨l, tq_updl t21 P21, ll⟩
    · rintro σ H16 ⟨y13, y14, y15, y16, us, rfl, s16, P16, lu, A16⟩
      have lu : us.length = 2 := lu
      obtain ⟨u0, hu0⟩ : ∃ u0, us[0]? = some u0 := ⟨_, List.getElem?_eq_getElem (by omega)⟩
      refine ⟨_, rfl, .inl ⟨rfl, _, SqL.of P16⟩, _, rfl, PL, _, _, _, rfl, rfl, SqL.of P16, at_ofG (j := 0) rfl (by rw [List.getElem?_map, hu0]; rfl), PL, _, _, rfl, rfl, P16, by rw [List.length_map, lu]; exact lt_line (by decide), ?_⟩
      have s17 : Same H14 (upd H16 PL (.lst (us.map V.ref ++ [V.ref u0]))) := s16.upd_own hPL
      have P17 : (upd H16 PL (.lst (us.map V.ref ++ [V.ref u0]))) PL = some (.lst ((us ++ [u0]).map V.ref)) := by rw [upd_same, List.map_append]; rfl
      have A17 : ∀ u ∈ us ++ [u0], ∃ l, Tq (upd H16 PL (.lst (us.map V.ref ++ [V.ref u0]))) u (sV l) ∧ l.length ≤ 2000 := fun u hu => by
        have : u ∈ us := by
          rcases List.mem_append.mp hu with g | g
          · exact g
          · rw [List.mem_singleton.mp g]; exact List.mem_of_getElem? hu0
        obtain ⟨l, q1, q2⟩ := A16 u this
        exact ⟨l, tq_updl q1 P16, q2⟩
      generalize upd H16 PL (.lst (us.map V.ref ++ [V.ref u0])) = H17 at s17 P17 A17
      have s717 := s714.trans s17
      refine ⟨_, rfl, PL, rfl, ⟨_, SqL.of P17⟩, for_list (xs := (us ++ [u0]).map V.ref) (fun i σ H' => ∃ y16 : Option V, σ = [some (.ref sc), some (.ref r), some (.ref ar), some (.ref b), some (.ref rd), some (.ref m), some (.ref x2), some (.int cut), some (.int lat), some (.ref sl), some (.ref c1), some (.ref c2), some (.ref PL), y13, y14, y15, y16] ∧ Same H17 H') ⟨_, rfl, Same.refl H17⟩ (fun i σ H' _ ⟨_, _, q⟩ => SqL.of (q _ _ P17)) ?_ ?_⟩
      · rintro i v σ H18 hv ⟨y16, rfl, s18⟩
        obtain ⟨u, hu, rfl⟩ := get_map_r hv
        obtain ⟨l, t17, ll⟩ := A17 u (List.mem_of_getElem? hu)
        have s718 := s717.trans s18
        have s1418 := s17.trans s18
        refine ⟨_, rfl, _, rfl, _, rfl, _, rfl, _, rfl, _, rfl, _, rfl, _, rfl, _, rfl, r, ar, rd, sl, u, cut, rows, D, sws, l, rfl, R7.same s718, s718 _ _ ar7, R, L7.same s718, Ok, W14.same s1418, W, good, t17.same s18, ll, fun H19 q s19 hq => ?_⟩
        have s1419 := s1418.trans s19
        refine ⟨c1, u, m, b, q, cut, rows, D, sws, l, rfl, R, hRd.same (s718.trans s19), Ok, C1'.same s1419, good, by omega, (t17.same s18).same s19, ll, hq, fun H20 s20 => ⟨_, rfl, ifn (by decide) ?_⟩⟩
        have s1420 := s1419.trans s20
        have s720 := s714.trans s1420
        have s1720 := (s18.trans s19).trans s20
        refine ⟨_, rfl, _, rfl, _, rfl, _, rfl, _, rfl, _, rfl, _, rfl, _, rfl, _, rfl, ?_⟩
        refine SwsAt.tail (W14.same s1420) fun H21 st2 s21 _ W21 => ?_
        have s721 := s720.trans s21
        have s1421 := s1420.trans s21
        refine ⟨_, rfl, r, ar, rd, st2, u, lat, rows, D, sws.drop 1, l, rfl, R7.same s721, s721 _ _ ar7, R, L7.same s721, Ok, W21, W.tail, goodT, (t17.same s1720).same s21, ll, fun H22 q2 s22 hq2 => ?_⟩
        refine ⟨c2, u, m, b, q2, lat, rows, D, sws.drop 1, l, rfl, R, hRd.same (s721.trans s22), Ok, C2.same (s1421.trans s22), goodT, by omega, ((t17.same s1720).same s21).same s22, ll, hq2, fun H23 s23 => ⟨_, rfl, ifn (by decide) ⟨_, rfl, ((s1720.trans s21).trans s22).trans s23⟩⟩⟩
      · rintro σ H18 ⟨y16, rfl, s18⟩
        exact k _
end
end Sh
end
section
set_option Elab.async false
set_option linter.all false
set_option maxRecDepth 100000
set_option maxHeartbeats 16000000
namespace Sh
open PySem PySem.Spec PyProof.Rows L2
theorem FunD.okU {P : Program} {w : World} {K : PySem.W.Frag} {mg : Str → Option Value} {base : Heap} {x qual : Str} {params : Arguments} {body : List Stmt} {scope : Scope} {dvs : List V} {kws : List (Str × V)} {f : Addr} {fd : FuncData} {N ps : List Str} {k : Nat} {sp : Sp} (F : FunD K x qual params body scope dvs kws f fd) (S : FnScope N ps scope) (len : ∀ vs H Q E, sp vs H Q E → vs.length = ps.length)
    (hbody : ∀ (cdv : Value) (A : Around) (outer : List Env) (s : Shared) (H : Hp) (vs : List V) (Q : VK) (E : XK), Room k (A.deeper (envOfC qual scope s.heap.objs.size f cdv)) → sp vs H Q E →
      ∃ t, PSs (cxOf CX0 P w K mg base N qual scope f cdv A outer s H E).nox body t ∧ t { nx := fun _ H' => Q .non H', rt := Q } (start N vs) H) : FnOk P w K mg base CX0 (k + 1) f fd ps sp :=
  F.ok S len fun cdv A outer s H vs Q E hr h => by
    obtain ⟨t, a, b⟩ := hbody cdv A outer s H vs Q E hr h
    exact ⟨t, a.nox, b⟩
section
variable {P : Program} {w : World} {K : PySem.W.Frag} {mg : Str → Option Value} {base : Heap} {C CP CR CC CF : Addr} {f : Addr} {fd : FuncData}
theorem ok_forU (B : ForT K CF) (hm : mg "Forest" = some (.ref CF)) (F : FunD K "__init__" "Forest.__init__" (defArgs s_Forest_init__) (defBody s_Forest_init__) (defScope s_Forest_init__) [] [] f fd) (M : Mk K CF f) : ForC P w K mg base CF := by
  have G : FnOk P w K mg base CX0 2 f fd ["self"] (spForI P w CF) := F.ok sc_Forest_init__ (fun vs H Q E h => by obtain ⟨x, dx, rfl, _⟩ := h; rfl) fun cdv A outer s H vs Q E hr h => body_forI B hr h
  exact ⟨hm, f, M, fun A' outer s H us vs Q E hr e0 r hs => G.raw (F.bindsN fun _ _ _ _ _ _ us hl => match us, hl with | [_], _ => rfl) .nil A' outer s H us vs Q E hr e0 r (by show spForI P w CF (vs ++ []) H Q E; rw [List.append_nil]; exact hs)⟩
theorem ok_nodU (T : Bl mg) (b_sum : mg "sum" = none) (B : ForT K CF) (F : FunD K "node_for" "Forest.node_for" (defArgs s_Forest_node_for) (defBody s_Forest_node_for) (defScope s_Forest_node_for) [] [] f fd) (M : Meth K CF "node_for" f) : NodOk P w K mg base CF := by
  have G : FnOk P w K mg base CX0 2 f fd ["self", "label", "below"] (spNode P w CF) := F.ok sc_Forest_node_for (fun vs H Q E h => by obtain ⟨f, t, F, n, ns, zs, cs, rfl, _⟩ := h; rfl) fun cdv A outer s H vs Q E hr h => body_node T b_sum B hr h
  exact ⟨f, M, fun A' outer s H us vs Q E hr e0 r hs => G.raw (F.bindsN fun _ _ _ _ _ _ us hl => match us, hl with | [_, _, _], _ => rfl) .nil A' outer s H us vs Q E hr e0 r (by show spNode P w CF (vs ++ []) H Q E; rw [List.append_nil]; exact hs)⟩
theorem ok_befU (T : Bk mg) (B : ChT K CC) (BF : ForT K CF) (F : FunD K "is_before" "Changer.is_before" (defArgs s_Changer_is_before) (defBody s_Changer_is_before) (defScope s_Changer_is_before) [] [] f fd) (M : Meth K CC "is_before" f) : BefOk P w K mg base CC CF := by
  have G : FnOk P w K mg base CX0 2 f fd ["self", "first", "second"] (spBefore52 P w CC CF) := FunD.okU F sc_Changer_is_before (fun vs H Q E h => by obtain ⟨s, p, q, a, b, c, rd, rk, f, rows, F, S, z, z', cs, ds, rfl, _⟩ := h; rfl) fun cdv A outer s H vs Q E hr h => body_before T B BF hr h
  exact ⟨f, M, fun A' outer s H us vs Q E hr e0 r hs => G.raw (F.bindsN fun _ _ _ _ _ _ us hl => match us, hl with | [_, _, _], _ => rfl) .nil A' outer s H us vs Q E hr e0 r (by show spBefore52 P w CC CF (vs ++ []) H Q E; rw [List.append_nil]; exact hs)⟩
theorem ok_betU (T : Bk mg) (B : ChT K CC) (c_is_before : BefOk P w K mg base CC CF) (F : FunD K "is_better" "Changer.is_better" (defArgs s_Changer_is_better) (defBody s_Changer_is_better) (defScope s_Changer_is_better) [] [] f fd) (M : Meth K CC "is_better" f) : BetOk P w K mg base CC CF := by
  have G : FnOk P w K mg base CX0 3 f fd ["self", "choice", "other"] (spBetter52 P w CC CF) := FunD.okU F sc_Changer_is_better (fun vs H Q E h => by obtain ⟨s, p, q, c, rd, rk, f, rows, F, S, x, y, rfl, _⟩ := h; rfl) fun cdv A outer s H vs Q E hr h => body_better T B c_is_before hr h
  exact ⟨f, M, fun A' outer s H us vs Q E hr e0 r hs => G.raw (F.bindsN fun _ _ _ _ _ _ us hl => match us, hl with | [_, _, _], _ => rfl) .nil A' outer s H us vs Q E hr e0 r (by show spBetter52 P w CC CF (vs ++ []) H Q E; rw [List.append_nil]; exact hs)⟩
theorem ok_offU (T : Bk mg) (B : ChT K CC) (BR : RdT K CR) (c_is_better : BetOk P w K mg base CC CF) (F : FunD K "offer" "Changer.offer" (defArgs s_Changer_offer) (defBody s_Changer_offer) (defScope s_Changer_offer) [] [] f fd) (M : Meth K CC "offer" f) : OffOk P w K mg base CR CC CF := by
  have G : FnOk P w K mg base CX0 4 f fd ["self", "best", "choice", "row"] (spOff52 P w CR CC CF) := FunD.okU F sc_Changer_offer (fun vs H Q E h => by obtain ⟨s, d, t, u, c, rd, rk, f, rows, D, F, S, x, y, ss, O, T, rfl, _⟩ := h; rfl) fun cdv A outer s H vs Q E hr h => body_offer T B BR c_is_better hr h
  exact ⟨f, M, fun A' outer s H us vs Q E hr e0 r hs => G.raw (F.bindsN fun _ _ _ _ _ _ us hl => match us, hl with | [_, _, _, _], _ => rfl) .nil A' outer s H us vs Q E hr e0 r (by show spOff52 P w CR CC CF (vs ++ []) H Q E; rw [List.append_nil]; exact hs)⟩
theorem ok_tabU (T : Br mg) (BB : BedT K C) (BP : PrT K CP) (B : ChT K CC) (BF : ForT K CF) (c_leaves : LeavOk P w K mg base C) (c_rows_from : DefOk P w K mg base CX0 1 "rows_from" spWays52) (c_offer : OffOk P w K mg base CR CC CF) (c_node : NodOk P w K mg base CF) (F : FunD K "table_above" "Changer.table_above" (defArgs s_Changer_table_above) (defBody s_Changer_table_above) (defScope s_Changer_table_above) [] [] f fd) (M : Meth K CC "table_above" f) : TabOk P w K mg base C CP CR CC CF := by
  have G : FnOk P w K mg base CX0 5 f fd ["self", "kind", "below"] (spTab52 P w C CP CR CC CF) := FunD.okU F sc_Changer_table_above (fun vs H Q E h => by obtain ⟨s, bl, c, rd, rk, f, ds, cut, e, rows, D, sws, F, S, Ts, ns, rfl, _⟩ := h; rfl) fun cdv A outer s H vs Q E hr h => body_tab T BB BP B BF c_leaves c_rows_from c_offer c_node hr h
  exact ⟨f, M, fun A' outer s H us vs Q E hr e0 r hs => G.raw (F.bindsN fun _ _ _ _ _ _ us hl => match us, hl with | [_, _, _], _ => rfl) .nil A' outer s H us vs Q E hr e0 r (by show spTab52 P w C CP CR CC CF (vs ++ []) H Q E; rw [List.append_nil]; exact hs)⟩
theorem ok_tbsU (T : Br mg) (BB : BedT K C) (BP : PrT K CP) (B : ChT K CC) (c_tab : TabOk P w K mg base C CP CR CC CF) (F : FunD K "tables_of" "Changer.tables_of" (defArgs s_Changer_tables_of) (defBody s_Changer_tables_of) (defScope s_Changer_tables_of) [] [] f fd) (M : Meth K CC "tables_of" f) : TbsOk2 P w K mg base C CP CR CC CF := by
  have G : FnOk P w K mg base CX0 6 f fd ["self", "plant"] (spTabs52 P w C CP CR CC CF) := FunD.okU F sc_Changer_tables_of (fun vs H Q E h => by obtain ⟨s, p, c, rd, rk, f, cut, rows, D, sws, F, S, l, rfl, _⟩ := h; rfl) fun cdv A outer s H vs Q E hr h => body_tabs T BB BP B c_tab hr h
  exact ⟨f, M, fun A' outer s H us vs Q E hr e0 r hs => G.raw (F.bindsN fun _ _ _ _ _ _ us hl => match us, hl with | [_, _], _ => rfl) .nil A' outer s H us vs Q E hr e0 r (by show spTabs52 P w C CP CR CC CF (vs ++ []) H Q E; rw [List.append_nil]; exact hs)⟩
theorem ok_chC (T : Bl mg) (BB : BedT K C) (BP : PrT K CP) (B : ChT K CC) (c_Forest : ForC P w K mg base CF) (hm : mg "Changer" = some (.ref CC)) (F : FunD K "__init__" "Changer.__init__" (defArgs s_Changer_init__) (defBody s_Changer_init__) (defScope s_Changer_init__) [] [] f fd) (M : Mk K CC f) : ChC P w K mg base C CP CC CF 4 :=
  ⟨hm, f, fd, M, F.ok sc_Changer_init__ (fun vs H Q E h => by obtain ⟨x, dx, c, rd, cut, rows, sws, rfl, _⟩ := h; rfl) fun cdv A outer s H vs Q E hr h => body_chI T BB BP B c_Forest hr h, F.bindsN fun _ _ _ _ _ _ us hl => match us, hl with | [_, _, _], _ => rfl⟩
theorem ok_rdC (T : Bl mg) (B : BedT K C) (BR : RdT K CR) (c_check_states : DefOk P w K mg base CX0 1 "check_states" spStates52) (c_are_states : DefOk P w K mg base CX0 1 "are_states" spAre52) (c_check_marks : DefOk P w K mg base CX0 1 "check_marks" spMarks52) (c_rows_by_kind : DefOk P w K mg base CX0 2 "rows_by_kind" (spByKind52 C)) (hm : mg "Reader" = some (.ref CR)) (F : FunD K "__init__" "Reader.__init__" (defArgs s_Reader_init__) (defBody s_Reader_init__) (defScope s_Reader_init__) [] [("otherwise", .int 0)] f fd) (M : Mk K CR f) : RdC P w K mg base C CR 4 := by
  have G : FnOk P w K mg base CX0 4 f fd ["self", "bed", "states", "rows", "marks", "otherwise"] (spRdI C CR) := F.ok sc_Reader_init__ (fun vs H Q E h => by obtain ⟨x, dx, b, tR, tM, us, rows, D, rfl, _⟩ := h; rfl) fun cdv A outer s H vs Q E hr h => body_rdI T B BR c_check_states c_are_states c_check_marks c_rows_by_kind hr h
  obtain ⟨ds, rv, Bd⟩ := F.binds0 (ps := ["self", "bed", "states", "rows", "marks", "otherwise"]) 5 (by simp) rfl (fun D doc pm an cdv ct us ks h1 h2 => match us, ks, h1, h2 with
    | [_, _, _, _, _], [_], _, _ => ⟨_, _, _, _, _, _, rfl, rfl, rfl⟩)
  refine ⟨hm, f, fd, ds, M, G, Bd, rv, ⟨fun s us ws _ l1 l2 => ?_, fun r1 r2 => r1.append r2⟩⟩
  obtain ⟨oc, od, dV, kV, doc, pm, an, cdv, ct, osl, rfl, lk, hcd, hD, hK⟩ := F.ex
  rcases hD with ⟨_, rfl⟩ | ⟨e, _⟩
  · match us, ws, l1, l2 with
    | [_, _, _, _, _], [_], _, _ => exact .of_eq rfl
  · exact absurd rfl e
end
end Sh
end
section
set_option Elab.async false
set_option linter.all false
set_option maxRecDepth 100000
set_option maxHeartbeats 2000000
set_option autoImplicit false
namespace Sh
open PySem PySem.Spec PyProof.Rows L2
theorem app_len (x y : Str) : (x ++ y).length = x.length + y.length := by
  show (x ++ y).cps.size = x.cps.size + y.cps.size
  rw [← Array.length_toList]
  show (TL.tl (x ++ y)).length = _
  rw [TL.tl_append, List.length_append]
  show x.cps.toList.length + y.cps.toList.length = _
  rw [Array.length_toList, Array.length_toList]
theorem acc_le {x y : Str} {n m : Nat} (hx : x.length ≤ n) (hy : y.length ≤ m) (h : n + m ≤ 10000000) : (x ++ y).length ≤ sizeLine := by rw [app_len]; exact le_line (by omega)
theorem acc_n {x y : Str} {n m : Nat} (hx : x.length ≤ n) (hy : y.length ≤ m) : (x ++ y).length ≤ n + m := by rw [app_len]; omega
theorem len_i {i : Nat} (h : i ≤ 10000) : (Str.ofString (toString ((i : Nat) : Int))).length ≤ 6 := by
  have e := int_text_length_le10 (a := ((i : Nat) : Int)) (k := 5) (by decide) (by omega)
  rw [PySem.ofString_length]
  exact e
theorem log_i {i : Nat} (h : i ≤ 10000) : (((i : Nat) : Int)).natAbs.log2 < 1920 := by
  rw [Int.natAbs_natCast]
  have : i.log2 ≤ i := Nat.log2_le_self i
  by_cases h0 : i = 0
  · subst h0; decide
  · have h14 : i.log2 < 14 := (Nat.log2_lt h0).mpr (by omega)
    omega
theorem len_z {i : Int} (h0 : -1 ≤ i) (h : i ≤ 10000) : (Str.ofString (toString i)).length ≤ 6 := by
  have e := int_text_length_le10 (a := i) (k := 5) (by decide) (by omega)
  rw [PySem.ofString_length]
  exact e
theorem log_z {i : Int} (h0 : -1 ≤ i) (h : i ≤ 10000) : i.natAbs.log2 < 1920 := by
  have hn : i.natAbs ≤ 10000 := by omega
  have := log_i hn
  rwa [Int.natAbs_natCast] at this
def q0 : Pos := ⟨0, 0, 0, 0⟩
def stpOf : Stmt → SupX.StP
  | .Assign [.Attribute (.Name _ q1) f q2] (.Name _ q3) q4 => ⟨f, q1, q2, q3, q4⟩
  | _ => ⟨"", q0, q0, q0, q0⟩
def headOf : List Stmt → Expr × Pos × Pos × Pos × Pos × Pos
  | .Expr (.Call (.Attribute (.Call (.Name _ p0) [] [] p1) _ p2) [msg] [] p3) p4 :: _ => (msg, p0, p1, p2, p3, p4)
  | _ => (.Name "" q0, q0, q0, q0, q0, q0)
def bodyTooMany : List Stmt := defBody s_TooMany
def zTooMany0 : SupX.StP := stpOf (bodyTooMany.getD 1 (.Pass q0))
def zTooMany1 : SupX.StP := stpOf (bodyTooMany.getD 2 (.Pass q0))
theorem eTooMany : defBody s_TooMany = SupX.iB (headOf bodyTooMany).1 (headOf bodyTooMany).2.1 (headOf bodyTooMany).2.2.1 (headOf bodyTooMany).2.2.2.1 (headOf bodyTooMany).2.2.2.2.1 (headOf bodyTooMany).2.2.2.2.2 [zTooMany0, zTooMany1] := rfl
theorem scTooMany : SupX.SupScope (defScope s_TooMany) [zTooMany0, zTooMany1] := ⟨rfl, rfl, rfl, by decide +kernel, rfl, rfl, rfl, fun z hz => by
  rcases List.mem_cons.mp hz with h | h
  · rw [h]; exact ⟨rfl, by decide +kernel⟩
  · rw [List.mem_singleton.mp h]; exact ⟨rfl, by decide +kernel⟩, by decide +kernel⟩
theorem ppTooMany (fI : Addr) : SupX.SupPos "TooMany.__init__" (defScope s_TooMany) fI (headOf bodyTooMany).1 (headOf bodyTooMany).2.1 (headOf bodyTooMany).2.2.1 (headOf bodyTooMany).2.2.2.1 (headOf bodyTooMany).2.2.2.2.1 (headOf bodyTooMany).2.2.2.2.2 := ⟨fun _ _ _ => ⟨_, rfl⟩, fun _ _ _ => rfl, fun _ _ _ => rfl⟩
def bodyInvalidPlant : List Stmt := defBody s_InvalidPlant
def zInvalidPlant0 : SupX.StP := stpOf (bodyInvalidPlant.getD 1 (.Pass q0))
theorem eInvalidPlant : defBody s_InvalidPlant = SupX.iB (headOf bodyInvalidPlant).1 (headOf bodyInvalidPlant).2.1 (headOf bodyInvalidPlant).2.2.1 (headOf bodyInvalidPlant).2.2.2.1 (headOf bodyInvalidPlant).2.2.2.2.1 (headOf bodyInvalidPlant).2.2.2.2.2 [zInvalidPlant0] := rfl
theorem scInvalidPlant : SupX.SupScope (defScope s_InvalidPlant) [zInvalidPlant0] := ⟨rfl, rfl, rfl, by decide +kernel, rfl, rfl, rfl, fun z hz => by
  rw [List.mem_singleton.mp hz]; exact ⟨rfl, by decide +kernel⟩, by decide +kernel⟩
theorem ppInvalidPlant (fI : Addr) : SupX.SupPos "InvalidPlant.__init__" (defScope s_InvalidPlant) fI (headOf bodyInvalidPlant).1 (headOf bodyInvalidPlant).2.1 (headOf bodyInvalidPlant).2.2.1 (headOf bodyInvalidPlant).2.2.2.1 (headOf bodyInvalidPlant).2.2.2.2.1 (headOf bodyInvalidPlant).2.2.2.2.2 := ⟨fun _ _ _ => ⟨_, rfl⟩, fun _ _ _ => rfl, fun _ _ _ => rfl⟩
def bodyInvalidPrices : List Stmt := defBody s_InvalidPrices
def zInvalidPrices0 : SupX.StP := stpOf (bodyInvalidPrices.getD 1 (.Pass q0))
theorem eInvalidPrices : defBody s_InvalidPrices = SupX.iB (headOf bodyInvalidPrices).1 (headOf bodyInvalidPrices).2.1 (headOf bodyInvalidPrices).2.2.1 (headOf bodyInvalidPrices).2.2.2.1 (headOf bodyInvalidPrices).2.2.2.2.1 (headOf bodyInvalidPrices).2.2.2.2.2 [zInvalidPrices0] := rfl
theorem scInvalidPrices : SupX.SupScope (defScope s_InvalidPrices) [zInvalidPrices0] := ⟨rfl, rfl, rfl, by decide +kernel, rfl, rfl, rfl, fun z hz => by
  rw [List.mem_singleton.mp hz]; exact ⟨rfl, by decide +kernel⟩, by decide +kernel⟩
theorem ppInvalidPrices (fI : Addr) : SupX.SupPos "InvalidPrices.__init__" (defScope s_InvalidPrices) fI (headOf bodyInvalidPrices).1 (headOf bodyInvalidPrices).2.1 (headOf bodyInvalidPrices).2.2.1 (headOf bodyInvalidPrices).2.2.2.1 (headOf bodyInvalidPrices).2.2.2.2.1 (headOf bodyInvalidPrices).2.2.2.2.2 := ⟨fun _ _ _ => ⟨_, rfl⟩, fun _ _ _ => rfl, fun _ _ _ => rfl⟩
def bodyUnknownKind : List Stmt := defBody s_UnknownKind
def zUnknownKind0 : SupX.StP := stpOf (bodyUnknownKind.getD 1 (.Pass q0))
theorem eUnknownKind : defBody s_UnknownKind = SupX.iB (headOf bodyUnknownKind).1 (headOf bodyUnknownKind).2.1 (headOf bodyUnknownKind).2.2.1 (headOf bodyUnknownKind).2.2.2.1 (headOf bodyUnknownKind).2.2.2.2.1 (headOf bodyUnknownKind).2.2.2.2.2 [zUnknownKind0] := rfl
theorem scUnknownKind : SupX.SupScope (defScope s_UnknownKind) [zUnknownKind0] := ⟨rfl, rfl, rfl, by decide +kernel, rfl, rfl, rfl, fun z hz => by
  rw [List.mem_singleton.mp hz]; exact ⟨rfl, by decide +kernel⟩, by decide +kernel⟩
theorem ppUnknownKind (fI : Addr) : SupX.SupPos "UnknownKind.__init__" (defScope s_UnknownKind) fI (headOf bodyUnknownKind).1 (headOf bodyUnknownKind).2.1 (headOf bodyUnknownKind).2.2.1 (headOf bodyUnknownKind).2.2.2.1 (headOf bodyUnknownKind).2.2.2.2.1 (headOf bodyUnknownKind).2.2.2.2.2 := ⟨fun _ _ _ => ⟨_, rfl⟩, fun _ _ _ => rfl, fun _ _ _ => rfl⟩
def bodyWrongBranches : List Stmt := defBody s_WrongBranches
def zWrongBranches0 : SupX.StP := stpOf (bodyWrongBranches.getD 1 (.Pass q0))
def zWrongBranches1 : SupX.StP := stpOf (bodyWrongBranches.getD 2 (.Pass q0))
theorem eWrongBranches : defBody s_WrongBranches = SupX.iB (headOf bodyWrongBranches).1 (headOf bodyWrongBranches).2.1 (headOf bodyWrongBranches).2.2.1 (headOf bodyWrongBranches).2.2.2.1 (headOf bodyWrongBranches).2.2.2.2.1 (headOf bodyWrongBranches).2.2.2.2.2 [zWrongBranches0, zWrongBranches1] := rfl
theorem scWrongBranches : SupX.SupScope (defScope s_WrongBranches) [zWrongBranches0, zWrongBranches1] := ⟨rfl, rfl, rfl, by decide +kernel, rfl, rfl, rfl, fun z hz => by
  rcases List.mem_cons.mp hz with h | h
  · rw [h]; exact ⟨rfl, by decide +kernel⟩
  · rw [List.mem_singleton.mp h]; exact ⟨rfl, by decide +kernel⟩, by decide +kernel⟩
theorem ppWrongBranches (fI : Addr) : SupX.SupPos "WrongBranches.__init__" (defScope s_WrongBranches) fI (headOf bodyWrongBranches).1 (headOf bodyWrongBranches).2.1 (headOf bodyWrongBranches).2.2.1 (headOf bodyWrongBranches).2.2.2.1 (headOf bodyWrongBranches).2.2.2.2.1 (headOf bodyWrongBranches).2.2.2.2.2 := ⟨fun _ _ _ => ⟨_, rfl⟩, fun _ _ _ => rfl, fun _ _ _ => rfl⟩
section
variable {w : World} {K : PySem.W.Frag} {mg : Str → Option Value}
theorem msg_TooMany {prog : Program} {x L fI : Addr} {cda cc : Addr} {vs : List V} {us : List Value} (rv : Vals vs us) (hP : tmP vs) : SupX.MsgOk prog w (PySem.W.ksEnv "TooMany.__init__" (defScope s_TooMany) L fI (.ref cda) cc) (fun y => (((("self" : Str) :: [zTooMany0, zTooMany1].map (·.f)).zip (.ref x :: us)).reverse).lookup y) (headOf bodyTooMany).1 := by
  subst hP
  obtain ⟨u1, u2, rfl, ⟨t1, rfl⟩, ⟨t2, rfl⟩⟩ := vals2 rv
  intro A E s Q hn hq
  have e1 : (((("self" : Str) :: [zTooMany0, zTooMany1].map (·.f)).zip [Value.ref x, .str "knots" t1, .int 2000 t2]).reverse).lookup ("what" : Str) = some (.str "knots" t1) := rfl
  have e2 : (((("self" : Str) :: [zTooMany0, zTooMany1].map (·.f)).zip [Value.ref x, .str "knots" t1, .int 2000 t2]).reverse).lookup ("limit" : Str) = some (.int 2000 t2) := rfl
  show wpAny _ _ (eval (.JoinedStr [.Constant (.str "too many ") _ _, .FormattedValue (.Name "what" _) (-1) none _, .Constant (.str ": the limit is ") _ _, .FormattedValue (.Name "limit" _) (-1) none _] _) _) Q E s
  refine wpAny_JoinedStr ?_
  refine wpAny_Constant_str ⟨_, _, rfl, le_line (by decide +kernel), ?_⟩
  refine wpAny_FormattedValue_plain (SupX.ldK hn e1 ?_ rfl rfl (by decide +kernel))
  refine wpAny_formatField_str ⟨_, _, rfl, le_line (by decide +kernel), ?_⟩ ⟨_, _, rfl, le_line (by decide +kernel), ?_⟩ (le_line (by decide +kernel))
  all_goals
    refine wpAny_Constant_str ⟨_, _, rfl, le_line (by decide +kernel), ?_⟩
    refine wpAny_FormattedValue_plain (SupX.ldK hn e2 ?_ rfl rfl (by decide +kernel))
    refine wpAny_formatField_int (by decide +kernel) ⟨_, _, rfl, le_line (by decide +kernel), ?_⟩
    exact ⟨le_line (by decide +kernel), hq _ _⟩
theorem msg_InvalidPlant {prog : Program} {x L fI : Addr} {cda cc : Addr} {vs : List V} {us : List Value} (rv : Vals vs us) (hP : plP vs) : SupX.MsgOk prog w (PySem.W.ksEnv "InvalidPlant.__init__" (defScope s_InvalidPlant) L fI (.ref cda) cc) (fun y => (((("self" : Str) :: [zInvalidPlant0].map (·.f)).zip (.ref x :: us)).reverse).lookup y) (headOf bodyInvalidPlant).1 := by
  obtain ⟨i, rfl, hi⟩ := hP
  obtain ⟨u1, rfl, ⟨t1, rfl⟩⟩ := vals1 rv
  intro A E s Q hn hq
  have e1 : (((("self" : Str) :: [zInvalidPlant0].map (·.f)).zip [Value.ref x, .int ((i : Nat) : Int) t1]).reverse).lookup ("place" : Str) = some (.int ((i : Nat) : Int) t1) := rfl
  show wpAny _ _ (eval (.JoinedStr [.Constant (.str "invalid plant at ") _ _, .FormattedValue (.Name "place" _) (-1) none _] _) _) Q E s
  refine wpAny_JoinedStr ?_
  refine wpAny_Constant_str ⟨_, _, rfl, le_line (by decide +kernel), ?_⟩
  refine wpAny_FormattedValue_plain (SupX.ldK hn e1 ?_ rfl rfl (by decide +kernel))
  have hl := acc_le (x := Str.empty ++ ("invalid plant at " : Str)) (n := 17) (by decide +kernel) (len_i hi) (by decide)
  refine wpAny_formatField_int (log_i hi) ⟨_, _, rfl, hl, ?_⟩
  exact ⟨hl, hq _ _⟩
theorem msg_InvalidPrices {prog : Program} {x L fI : Addr} {cda cc : Addr} {vs : List V} {us : List Value} (rv : Vals vs us) (hP : ipP vs) : SupX.MsgOk prog w (PySem.W.ksEnv "InvalidPrices.__init__" (defScope s_InvalidPrices) L fI (.ref cda) cc) (fun y => (((("self" : Str) :: [zInvalidPrices0].map (·.f)).zip (.ref x :: us)).reverse).lookup y) (headOf bodyInvalidPrices).1 := by
  obtain ⟨i, rfl, hi0, hi⟩ := hP
  obtain ⟨u1, rfl, ⟨t1, rfl⟩⟩ := vals1 rv
  intro A E s Q hn hq
  have e1 : (((("self" : Str) :: [zInvalidPrices0].map (·.f)).zip [Value.ref x, .int i t1]).reverse).lookup ("place" : Str) = some (.int i t1) := rfl
  show wpAny _ _ (eval (.JoinedStr [.Constant (.str "invalid prices at ") _ _, .FormattedValue (.Name "place" _) (-1) none _] _) _) Q E s
  refine wpAny_JoinedStr ?_
  refine wpAny_Constant_str ⟨_, _, rfl, le_line (by decide +kernel), ?_⟩
  refine wpAny_FormattedValue_plain (SupX.ldK hn e1 ?_ rfl rfl (by decide +kernel))
  have hl := acc_le (x := Str.empty ++ ("invalid prices at " : Str)) (n := 18) (by decide +kernel) (len_z hi0 hi) (by decide)
  refine wpAny_formatField_int (log_z hi0 hi) ⟨_, _, rfl, hl, ?_⟩
  exact ⟨hl, hq _ _⟩
theorem msg_UnknownKind {prog : Program} {x L fI : Addr} {cda cc : Addr} {vs : List V} {us : List Value} (rv : Vals vs us) (hP : ukP vs) : SupX.MsgOk prog w (PySem.W.ksEnv "UnknownKind.__init__" (defScope s_UnknownKind) L fI (.ref cda) cc) (fun y => (((("self" : Str) :: [zUnknownKind0].map (·.f)).zip (.ref x :: us)).reverse).lookup y) (headOf bodyUnknownKind).1 := by
  obtain ⟨z, rfl, hz, hc⟩ := hP
  obtain ⟨u1, rfl, ⟨t1, rfl⟩⟩ := vals1 rv
  intro A E s Q hn hq
  have e1 : (((("self" : Str) :: [zUnknownKind0].map (·.f)).zip [Value.ref x, .str z t1]).reverse).lookup ("kind" : Str) = some (.str z t1) := rfl
  have hr : (reprText z).length ≤ 1002 := by have := StrLaws.reprText_len z hc; omega
  show wpAny _ _ (eval (.JoinedStr [.Constant (.str "unknown kind: ") _ _, .FormattedValue (.Name "kind" _) 114 none _] _) _) Q E s
  refine wpAny_JoinedStr ?_
  refine wpAny_Constant_str ⟨_, _, rfl, le_line (by decide +kernel), ?_⟩
  refine wpAny_FormattedValue_repr (SupX.ldK hn e1 ?_ rfl rfl (by decide +kernel))
  have hl := acc_le (x := Str.empty ++ ("unknown kind: " : Str)) (n := 14) (by decide +kernel) hr (by decide)
  refine pyReprObj_str ?_ (le_line (by omega))
  refine wpAny_formatField_str ⟨_, _, rfl, hl, ?_⟩ ⟨_, _, rfl, hl, ?_⟩ (le_line (by omega))
  all_goals exact ⟨hl, hq _ _⟩
theorem msg_WrongBranches {prog : Program} {x L fI : Addr} {cda cc : Addr} {vs : List V} {us : List Value} (rv : Vals vs us) (hP : wrP vs) : SupX.MsgOk prog w (PySem.W.ksEnv "WrongBranches.__init__" (defScope s_WrongBranches) L fI (.ref cda) cc) (fun y => (((("self" : Str) :: [zWrongBranches0, zWrongBranches1].map (·.f)).zip (.ref x :: us)).reverse).lookup y) (headOf bodyWrongBranches).1 := by
  obtain ⟨i, j, rfl, hi, hj⟩ := hP
  obtain ⟨u1, u2, rfl, ⟨t1, rfl⟩, ⟨t2, rfl⟩⟩ := vals2 rv
  intro A E s Q hn hq
  have e1 : (((("self" : Str) :: [zWrongBranches0, zWrongBranches1].map (·.f)).zip [Value.ref x, .int ((i : Nat) : Int) t1, .int ((j : Nat) : Int) t2]).reverse).lookup ("wanted" : Str) = some (.int ((i : Nat) : Int) t1) := rfl
  have e2 : (((("self" : Str) :: [zWrongBranches0, zWrongBranches1].map (·.f)).zip [Value.ref x, .int ((i : Nat) : Int) t1, .int ((j : Nat) : Int) t2]).reverse).lookup ("given" : Str) = some (.int ((j : Nat) : Int) t2) := rfl
  show wpAny _ _ (eval (.JoinedStr [.FormattedValue (.Name "wanted" _) (-1) none _, .Constant (.str " wanted, ") _ _, .FormattedValue (.Name "given" _) (-1) none _, .Constant (.str " given") _ _] _) _) Q E s
  have a1 := acc_n (x := Str.empty) (n := 0) (by decide +kernel) (len_i hi)
  have a2 := acc_n a1 (show (" wanted, " : Str).length ≤ 9 by decide +kernel)
  have a3 := acc_n a2 (len_i hj)
  have a4 := acc_n a3 (show (" given" : Str).length ≤ 6 by decide +kernel)
  refine wpAny_JoinedStr ?_
  refine wpAny_FormattedValue_plain (SupX.ldK hn e1 ?_ rfl rfl (by decide +kernel))
  refine wpAny_formatField_int (log_i hi) ⟨_, _, rfl, le_line (by omega), ?_⟩
  refine wpAny_Constant_str ⟨_, _, rfl, le_line (by omega), ?_⟩
  refine wpAny_FormattedValue_plain (SupX.ldK hn e2 ?_ rfl rfl (by decide +kernel))
  refine wpAny_formatField_int (log_i hj) ⟨_, _, rfl, le_line (by omega), ?_⟩
  refine wpAny_Constant_str ⟨_, _, rfl, le_line (by omega), ?_⟩
  exact ⟨le_line (by omega), hq _ _⟩
theorem sup_TooMany {h : Heap} (X : K.In h) (G : h.Ns mainGlobals mg) (gs : mg "super" = none) (F : Hx.XFacts TL.prog K xTooMany [zTooMany0, zTooMany1]) : PySem.SupX.SupCls TL.prog w K mg "TooMany" (He.ga K "TooMany") ["what", "limit"] tmP := by
  have T := F.txt
  have T2 : SupX.SupTxt TL.prog K (He.ga K "TooMany") (Hx.iOf K "TooMany") "TooMany.__init__" (defArgs s_TooMany) (SupX.iB (headOf bodyTooMany).1 (headOf bodyTooMany).2.1 (headOf bodyTooMany).2.2.1 (headOf bodyTooMany).2.2.2.1 (headOf bodyTooMany).2.2.2.2.1 (headOf bodyTooMany).2.2.2.2.2 [zTooMany0, zTooMany1]) (defScope s_TooMany) [zTooMany0, zTooMany1] := by
    rw [← eTooMany]
    exact T
  refine ⟨PySem.W.mg_of X G F.gl, gs, T.kC, T.exC, T.tyC, fun A s R mb vs us rv hP hl K1 hlim hG hB hbs hroom hq => ?_⟩
  exact SupX.sup_made (ppTooMany _) T2 scTooMany (by decide +kernel) ⟨_, rfl, rfl⟩ (fun _ _ _ _ _ _ _ us hu => match us, hu with | [_, _, _], _ => rfl) K1 hlim hG gs hB hbs (by rw [← rv.length, hl]; rfl) hroom (by decide) (fun x L cda cc => msg_TooMany rv hP) hq
theorem sup_InvalidPlant {h : Heap} (X : K.In h) (G : h.Ns mainGlobals mg) (gs : mg "super" = none) (F : Hx.XFacts TL.prog K xInvalidPlant [zInvalidPlant0]) : PySem.SupX.SupCls TL.prog w K mg "InvalidPlant" (He.ga K "InvalidPlant") ["place"] plP := by
  have T := F.txt
  have T2 : SupX.SupTxt TL.prog K (He.ga K "InvalidPlant") (Hx.iOf K "InvalidPlant") "InvalidPlant.__init__" (defArgs s_InvalidPlant) (SupX.iB (headOf bodyInvalidPlant).1 (headOf bodyInvalidPlant).2.1 (headOf bodyInvalidPlant).2.2.1 (headOf bodyInvalidPlant).2.2.2.1 (headOf bodyInvalidPlant).2.2.2.2.1 (headOf bodyInvalidPlant).2.2.2.2.2 [zInvalidPlant0]) (defScope s_InvalidPlant) [zInvalidPlant0] := by
    rw [← eInvalidPlant]
    exact T
  refine ⟨PySem.W.mg_of X G F.gl, gs, T.kC, T.exC, T.tyC, fun A s R mb vs us rv hP hl K1 hlim hG hB hbs hroom hq => ?_⟩
  exact SupX.sup_made (ppInvalidPlant _) T2 scInvalidPlant (by decide +kernel) ⟨_, rfl, rfl⟩ (fun _ _ _ _ _ _ _ us hu => match us, hu with | [_, _], _ => rfl) K1 hlim hG gs hB hbs (by rw [← rv.length, hl]; rfl) hroom (by decide) (fun x L cda cc => msg_InvalidPlant rv hP) hq
theorem sup_InvalidPrices {h : Heap} (X : K.In h) (G : h.Ns mainGlobals mg) (gs : mg "super" = none) (F : Hx.XFacts TL.prog K xInvalidPrices [zInvalidPrices0]) : PySem.SupX.SupCls TL.prog w K mg "InvalidPrices" (He.ga K "InvalidPrices") ["place"] ipP := by
  have T := F.txt
  have T2 : SupX.SupTxt TL.prog K (He.ga K "InvalidPrices") (Hx.iOf K "InvalidPrices") "InvalidPrices.__init__" (defArgs s_InvalidPrices) (SupX.iB (headOf bodyInvalidPrices).1 (headOf bodyInvalidPrices).2.1 (headOf bodyInvalidPrices).2.2.1 (headOf bodyInvalidPrices).2.2.2.1 (headOf bodyInvalidPrices).2.2.2.2.1 (headOf bodyInvalidPrices).2.2.2.2.2 [zInvalidPrices0]) (defScope s_InvalidPrices) [zInvalidPrices0] := by
    rw [← eInvalidPrices]
    exact T
  refine ⟨PySem.W.mg_of X G F.gl, gs, T.kC, T.exC, T.tyC, fun A s R mb vs us rv hP hl K1 hlim hG hB hbs hroom hq => ?_⟩
  exact SupX.sup_made (ppInvalidPrices _) T2 scInvalidPrices (by decide +kernel) ⟨_, rfl, rfl⟩ (fun _ _ _ _ _ _ _ us hu => match us, hu with | [_, _], _ => rfl) K1 hlim hG gs hB hbs (by rw [← rv.length, hl]; rfl) hroom (by decide) (fun x L cda cc => msg_InvalidPrices rv hP) hq
theorem sup_UnknownKind {h : Heap} (X : K.In h) (G : h.Ns mainGlobals mg) (gs : mg "super" = none) (F : Hx.XFacts TL.prog K xUnknownKind [zUnknownKind0]) : PySem.SupX.SupCls TL.prog w K mg "UnknownKind" (He.ga K "UnknownKind") ["kind"] ukP := by
  have T := F.txt
  have T2 : SupX.SupTxt TL.prog K (He.ga K "UnknownKind") (Hx.iOf K "UnknownKind") "UnknownKind.__init__" (defArgs s_UnknownKind) (SupX.iB (headOf bodyUnknownKind).1 (headOf bodyUnknownKind).2.1 (headOf bodyUnknownKind).2.2.1 (headOf bodyUnknownKind).2.2.2.1 (headOf bodyUnknownKind).2.2.2.2.1 (headOf bodyUnknownKind).2.2.2.2.2 [zUnknownKind0]) (defScope s_UnknownKind) [zUnknownKind0] := by
    rw [← eUnknownKind]
    exact T
  refine ⟨PySem.W.mg_of X G F.gl, gs, T.kC, T.exC, T.tyC, fun A s R mb vs us rv hP hl K1 hlim hG hB hbs hroom hq => ?_⟩
  exact SupX.sup_made (ppUnknownKind _) T2 scUnknownKind (by decide +kernel) ⟨_, rfl, rfl⟩ (fun _ _ _ _ _ _ _ us hu => match us, hu with | [_, _], _ => rfl) K1 hlim hG gs hB hbs (by rw [← rv.length, hl]; rfl) hroom (by decide) (fun x L cda cc => msg_UnknownKind rv hP) hq
theorem sup_WrongBranches {h : Heap} (X : K.In h) (G : h.Ns mainGlobals mg) (gs : mg "super" = none) (F : Hx.XFacts TL.prog K xWrongBranches [zWrongBranches0, zWrongBranches1]) : PySem.SupX.SupCls TL.prog w K mg "WrongBranches" (He.ga K "WrongBranches") ["wanted", "given"] wrP := by
  have T := F.txt
  have T2 : SupX.SupTxt TL.prog K (He.ga K "WrongBranches") (Hx.iOf K "WrongBranches") "WrongBranches.__init__" (defArgs s_WrongBranches) (SupX.iB (headOf bodyWrongBranches).1 (headOf bodyWrongBranches).2.1 (headOf bodyWrongBranches).2.2.1 (headOf bodyWrongBranches).2.2.2.1 (headOf bodyWrongBranches).2.2.2.2.1 (headOf bodyWrongBranches).2.2.2.2.2 [zWrongBranches0, zWrongBranches1]) (defScope s_WrongBranches) [zWrongBranches0, zWrongBranches1] := by
    rw [← eWrongBranches]
    exact T
  refine ⟨PySem.W.mg_of X G F.gl, gs, T.kC, T.exC, T.tyC, fun A s R mb vs us rv hP hl K1 hlim hG hB hbs hroom hq => ?_⟩
  exact SupX.sup_made (ppWrongBranches _) T2 scWrongBranches (by decide +kernel) ⟨_, rfl, rfl⟩ (fun _ _ _ _ _ _ _ us hu => match us, hu with | [_, _, _], _ => rfl) K1 hlim hG gs hB hbs (by rw [← rv.length, hl]; rfl) hroom (by decide) (fun x L cda cc => msg_WrongBranches rv hP) hq
end
end Sh
end
section
set_option Elab.async false
set_option linter.all false
set_option maxRecDepth 100000
set_option maxHeartbeats 4000000
set_option autoImplicit false
namespace Sh
open PySem PySem.Spec PyProof.Rows L2
theorem ob_eq (s : PySem.W.SharedT) : ob s = hk.obs s.abs := Hx.obsZ_eq (HandSHeadRun.getT_eq s)
def AK (K : PySem.W.Frag) : XA := ⟨He.ga K "TooMany", He.ga K "InvalidPlant", He.ga K "TooMany", He.ga K "TooMany", He.ga K "UnknownKind", He.ga K "WrongBranches"⟩
theorem facts {w : World} {K : PySem.W.Frag} {h : Heap} {mg : Str → Option Value} {f : Addr} (X : K.In h) (G : h.Ns mainGlobals mg) (hfa : mg ("law" : Str) = some (.ref f)) (c : He.SaysD fa fn K) (x1 : (xs.all fun d => d.ok TL.prog.main.file K) = true) (x2 : (xs.map fun d => Hx.xvOf K d.x) = xs.map Hx.XDef.val) (x3 : (nsX.all fun x => Hx.zB K "YardError" nsX x) = true) :
    ∃ fd : FuncData, (∀ (s : Shared) (v : Value), BindsTo s fd ⟨[v], []⟩ [("script", v)]) ∧ ∀ base : Heap, K.In base → base.Ns mainGlobals mg → FnOk TL.prog w K mg base CX0 11 f fd ["script"] (spLaw K) := by
  have D_all_letters : Def0 K mg "all_letters" s_all_letters := by
    obtain ⟨fd, F⟩ := c.def_ 0 (d := dOf "all_letters" s_all_letters) rfl
    exact ⟨_, fd, He.glo_ok X G (c.fact 0 (f := .glo "all_letters") rfl), F⟩
  have D_is_name : Def0 K mg "is_name" s_is_name := by
    obtain ⟨fd, F⟩ := c.def_ 1 (d := dOf "is_name" s_is_name) rfl
    exact ⟨_, fd, He.glo_ok X G (c.fact 1 (f := .glo "is_name") rfl), F⟩
  have D_check_pairs : Def0 K mg "check_pairs" s_check_pairs := by
    obtain ⟨fd, F⟩ := c.def_ 2 (d := dOf "check_pairs" s_check_pairs) rfl
    exact ⟨_, fd, He.glo_ok X G (c.fact 2 (f := .glo "check_pairs") rfl), F⟩
  have D_check_beds : Def0 K mg "check_beds" s_check_beds := by
    obtain ⟨fd, F⟩ := c.def_ 3 (d := dOf "check_beds" s_check_beds) rfl
    exact ⟨_, fd, He.glo_ok X G (c.fact 3 (f := .glo "check_beds") rfl), F⟩
  have D_rows_from : Def0 K mg "rows_from" s_rows_from := by
    obtain ⟨fd, F⟩ := c.def_ 4 (d := dOf "rows_from" s_rows_from) rfl
    exact ⟨_, fd, He.glo_ok X G (c.fact 4 (f := .glo "rows_from") rfl), F⟩
  have D_check_size : Def0 K mg "check_size" s_check_size := by
    obtain ⟨fd, F⟩ := c.def_ 5 (d := dOf "check_size" s_check_size) rfl
    exact ⟨_, fd, He.glo_ok X G (c.fact 5 (f := .glo "check_size") rfl), F⟩
  have D_fault_place : Def0 K mg "fault_place" s_fault_place := by
    obtain ⟨fd, F⟩ := c.def_ 6 (d := dOf "fault_place" s_fault_place) rfl
    exact ⟨_, fd, He.glo_ok X G (c.fact 6 (f := .glo "fault_place") rfl), F⟩
  have D_check_plant : Def0 K mg "check_plant" s_check_plant := by
    obtain ⟨fd, F⟩ := c.def_ 7 (d := dOf "check_plant" s_check_plant) rfl
    exact ⟨_, fd, He.glo_ok X G (c.fact 7 (f := .glo "check_plant") rfl), F⟩
  have D_check_states : Def0 K mg "check_states" s_check_states := by
    obtain ⟨fd, F⟩ := c.def_ 8 (d := dOf "check_states" s_check_states) rfl
    exact ⟨_, fd, He.glo_ok X G (c.fact 8 (f := .glo "check_states") rfl), F⟩
  have D_rows_by_kind : Def0 K mg "rows_by_kind" s_rows_by_kind := by
    obtain ⟨fd, F⟩ := c.def_ 9 (d := dOf "rows_by_kind" s_rows_by_kind) rfl
    exact ⟨_, fd, He.glo_ok X G (c.fact 9 (f := .glo "rows_by_kind") rfl), F⟩
  have D_are_states : Def0 K mg "are_states" s_are_states := by
    obtain ⟨fd, F⟩ := c.def_ 10 (d := dOf "are_states" s_are_states) rfl
    exact ⟨_, fd, He.glo_ok X G (c.fact 10 (f := .glo "are_states") rfl), F⟩
  have D_check_marks : Def0 K mg "check_marks" s_check_marks := by
    obtain ⟨fd, F⟩ := c.def_ 11 (d := dOf "check_marks" s_check_marks) rfl
    exact ⟨_, fd, He.glo_ok X G (c.fact 11 (f := .glo "check_marks") rfl), F⟩
  have D_entries_of : Def0 K mg "entries_of" s_entries_of := by
    obtain ⟨fd, F⟩ := c.def_ 12 (d := dOf "entries_of" s_entries_of) rfl
    exact ⟨_, fd, He.glo_ok X G (c.fact 12 (f := .glo "entries_of") rfl), F⟩
  have D_cheapest_change : Def0 K mg "cheapest_change" s_cheapest_change := by
    obtain ⟨fd, F⟩ := c.def_ 13 (d := dOf "cheapest_change" s_cheapest_change) rfl
    exact ⟨_, fd, He.glo_ok X G (c.fact 13 (f := .glo "cheapest_change") rfl), F⟩
  have D_check_swaps : Def0 K mg "check_swaps" s_check_swaps := by
    obtain ⟨fd, F⟩ := c.def_ 14 (d := dOf "check_swaps" s_check_swaps) rfl
    exact ⟨_, fd, He.glo_ok X G (c.fact 14 (f := .glo "check_swaps") rfl), F⟩
  have D_is_price : Def0 K mg "is_price" s_is_price := by
    obtain ⟨fd, F⟩ := c.def_ 15 (d := dOf "is_price" s_is_price) rfl
    exact ⟨_, fd, He.glo_ok X G (c.fact 15 (f := .glo "is_price") rfl), F⟩
  have D_cheapest : Def0 K mg "cheapest" s_cheapest := by
    obtain ⟨fd, F⟩ := c.def_ 16 (d := dOf "cheapest" s_cheapest) rfl
    exact ⟨_, fd, He.glo_ok X G (c.fact 16 (f := .glo "cheapest") rfl), F⟩
  have D__law_cell : Def0 K mg "_law_cell" s_law_cell := by
    obtain ⟨fd, F⟩ := c.def_ 17 (d := dOf "_law_cell" s_law_cell) rfl
    exact ⟨_, fd, He.glo_ok X G (c.fact 17 (f := .glo "_law_cell") rfl), F⟩
  have D__law_box : Def0 K mg "_law_box" s_law_box := by
    obtain ⟨fd, F⟩ := c.def_ 18 (d := dOf "_law_box" s_law_box) rfl
    exact ⟨_, fd, He.glo_ok X G (c.fact 18 (f := .glo "_law_box") rfl), F⟩
  have D__law_pick : Def0 K mg "_law_pick" s_law_pick := by
    obtain ⟨fd, F⟩ := c.def_ 19 (d := dOf "_law_pick" s_law_pick) rfl
    exact ⟨_, fd, He.glo_ok X G (c.fact 19 (f := .glo "_law_pick") rfl), F⟩
  have D__law_letters : Def0 K mg "_law_letters" s_law_letters := by
    obtain ⟨fd, F⟩ := c.def_ 20 (d := dOf "_law_letters" s_law_letters) rfl
    exact ⟨_, fd, He.glo_ok X G (c.fact 20 (f := .glo "_law_letters") rfl), F⟩
  have D__law_kinds : Def0 K mg "_law_kinds" s_law_kinds := by
    obtain ⟨fd, F⟩ := c.def_ 21 (d := dOf "_law_kinds" s_law_kinds) rfl
    exact ⟨_, fd, He.glo_ok X G (c.fact 21 (f := .glo "_law_kinds") rfl), F⟩
  have D__law_arity : Def0 K mg "_law_arity" s_law_arity := by
    obtain ⟨fd, F⟩ := c.def_ 22 (d := dOf "_law_arity" s_law_arity) rfl
    exact ⟨_, fd, He.glo_ok X G (c.fact 22 (f := .glo "_law_arity") rfl), F⟩
  have D__law_made_bed : Def0 K mg "_law_made_bed" s_law_made_bed := by
    obtain ⟨fd, F⟩ := c.def_ 23 (d := dOf "_law_made_bed" s_law_made_bed) rfl
    exact ⟨_, fd, He.glo_ok X G (c.fact 23 (f := .glo "_law_made_bed") rfl), F⟩
  have D__law_tuples : Def0 K mg "_law_tuples" s_law_tuples := by
    obtain ⟨fd, F⟩ := c.def_ 24 (d := dOf "_law_tuples" s_law_tuples) rfl
    exact ⟨_, fd, He.glo_ok X G (c.fact 24 (f := .glo "_law_tuples") rfl), F⟩
  have D__law_reader : Def0 K mg "_law_reader" s_law_reader := by
    obtain ⟨fd, F⟩ := c.def_ 25 (d := dOf "_law_reader" s_law_reader) rfl
    exact ⟨_, fd, He.glo_ok X G (c.fact 25 (f := .glo "_law_reader") rfl), F⟩
  have D__law_made_reader : Def0 K mg "_law_made_reader" s_law_made_reader := by
    obtain ⟨fd, F⟩ := c.def_ 26 (d := dOf "_law_made_reader" s_law_made_reader) rfl
    exact ⟨_, fd, He.glo_ok X G (c.fact 26 (f := .glo "_law_made_reader") rfl), F⟩
  have D__law_plant : Def0 K mg "_law_plant" s_law_plant := by
    obtain ⟨fd, F⟩ := c.def_ 27 (d := dOf "_law_plant" s_law_plant) rfl
    exact ⟨_, fd, He.glo_ok X G (c.fact 27 (f := .glo "_law_plant") rfl), F⟩
  have D__law_chain : Def0 K mg "_law_chain" s_law_chain := by
    obtain ⟨fd, F⟩ := c.def_ 28 (d := dOf "_law_chain" s_law_chain) rfl
    exact ⟨_, fd, He.glo_ok X G (c.fact 28 (f := .glo "_law_chain") rfl), F⟩
  have D__law_fault : Def0 K mg "_law_fault" s_law_fault := by
    obtain ⟨fd, F⟩ := c.def_ 29 (d := dOf "_law_fault" s_law_fault) rfl
    exact ⟨_, fd, He.glo_ok X G (c.fact 29 (f := .glo "_law_fault") rfl), F⟩
  have D__law_spoilt : Def0 K mg "_law_spoilt" s_law_spoilt := by
    obtain ⟨fd, F⟩ := c.def_ 30 (d := dOf "_law_spoilt" s_law_spoilt) rfl
    exact ⟨_, fd, He.glo_ok X G (c.fact 30 (f := .glo "_law_spoilt") rfl), F⟩
  have D__law_number : Def0 K mg "_law_number" s_law_number := by
    obtain ⟨fd, F⟩ := c.def_ 31 (d := dOf "_law_number" s_law_number) rfl
    exact ⟨_, fd, He.glo_ok X G (c.fact 31 (f := .glo "_law_number") rfl), F⟩
  have D__law_swaps : Def0 K mg "_law_swaps" s_law_swaps := by
    obtain ⟨fd, F⟩ := c.def_ 32 (d := dOf "_law_swaps" s_law_swaps) rfl
    exact ⟨_, fd, He.glo_ok X G (c.fact 32 (f := .glo "_law_swaps") rfl), F⟩
  have D__law_made_prices : Def0 K mg "_law_made_prices" s_law_made_prices := by
    obtain ⟨fd, F⟩ := c.def_ 33 (d := dOf "_law_made_prices" s_law_made_prices) rfl
    exact ⟨_, fd, He.glo_ok X G (c.fact 33 (f := .glo "_law_made_prices") rfl), F⟩
  have D__law_rank : Def0 K mg "_law_rank" s_law_rank := by
    obtain ⟨fd, F⟩ := c.def_ 34 (d := dOf "_law_rank" s_law_rank) rfl
    exact ⟨_, fd, He.glo_ok X G (c.fact 34 (f := .glo "_law_rank") rfl), F⟩
  have D__law_lesser : Def0 K mg "_law_lesser" s_law_lesser := by
    obtain ⟨fd, F⟩ := c.def_ 35 (d := dOf "_law_lesser" s_law_lesser) rfl
    exact ⟨_, fd, He.glo_ok X G (c.fact 35 (f := .glo "_law_lesser") rfl), F⟩
  have D__law_steps : Def0 K mg "_law_steps" s_law_steps := by
    obtain ⟨fd, F⟩ := c.def_ 36 (d := dOf "_law_steps" s_law_steps) rfl
    exact ⟨_, fd, He.glo_ok X G (c.fact 36 (f := .glo "_law_steps") rfl), F⟩
  have D__law_ways : Def0 K mg "_law_ways" s_law_ways := by
    obtain ⟨fd, F⟩ := c.def_ 37 (d := dOf "_law_ways" s_law_ways) rfl
    exact ⟨_, fd, He.glo_ok X G (c.fact 37 (f := .glo "_law_ways") rfl), F⟩
  have D__law_integer : Def0 K mg "_law_integer" s_law_integer := by
    obtain ⟨fd, F⟩ := c.def_ 38 (d := dOf "_law_integer" s_law_integer) rfl
    exact ⟨_, fd, He.glo_ok X G (c.fact 38 (f := .glo "_law_integer") rfl), F⟩
  have D__law_offer : Def0 K mg "_law_offer" s_law_offer := by
    obtain ⟨fd, F⟩ := c.def_ 39 (d := dOf "_law_offer" s_law_offer) rfl
    exact ⟨_, fd, He.glo_ok X G (c.fact 39 (f := .glo "_law_offer") rfl), F⟩
  have D__law_knot : Def0 K mg "_law_knot" s_law_knot := by
    obtain ⟨fd, F⟩ := c.def_ 40 (d := dOf "_law_knot" s_law_knot) rfl
    exact ⟨_, fd, He.glo_ok X G (c.fact 40 (f := .glo "_law_knot") rfl), F⟩
  have D__law_due : Def0 K mg "_law_due" s_law_due := by
    obtain ⟨fd, F⟩ := c.def_ 41 (d := dOf "_law_due" s_law_due) rfl
    exact ⟨_, fd, He.glo_ok X G (c.fact 41 (f := .glo "_law_due") rfl), F⟩
  have D__law_told : Def0 K mg "_law_told" s_law_told := by
    obtain ⟨fd, F⟩ := c.def_ 42 (d := dOf "_law_told" s_law_told) rfl
    exact ⟨_, fd, He.glo_ok X G (c.fact 42 (f := .glo "_law_told") rfl), F⟩
  have D__law_right : Def0 K mg "_law_right" s_law_right := by
    obtain ⟨fd, F⟩ := c.def_ 43 (d := dOf "_law_right" s_law_right) rfl
    exact ⟨_, fd, He.glo_ok X G (c.fact 43 (f := .glo "_law_right") rfl), F⟩
  obtain ⟨fdL, F_law⟩ := c.def_ 44 (d := dOf "law" s_law) rfl
  have e := hfa.symm.trans (He.glo_ok X G (c.fact 44 (f := .glo "law") rfl))
  cases e
  have bnd := FunD.bindsA (ps := ["script"]) F_law fun _ _ _ _ _ _ us hl => match us, hl with | [_], _ => rfl
  have T0 : Bl mg := ⟨He.free_ok X G (c.fact 90 (f := .free "len") rfl), He.free_ok X G (c.fact 91 (f := .free "range") rfl), He.free_ok X G (c.fact 92 (f := .free "abs") rfl), He.free_ok X G (c.fact 93 (f := .free "int") rfl), He.free_ok X G (c.fact 94 (f := .free "max") rfl), He.free_ok X G (c.fact 95 (f := .free "all") rfl), He.free_ok X G (c.fact 96 (f := .free "isinstance") rfl), He.free_ok X G (c.fact 97 (f := .free "set") rfl), He.free_ok X G (c.fact 98 (f := .free "list") rfl), He.free_ok X G (c.fact 99 (f := .free "tuple") rfl), He.free_ok X G (c.fact 100 (f := .free "bool") rfl), He.free_ok X G (c.fact 101 (f := .free "str") rfl), He.free_ok X G (c.fact 102 (f := .free "enumerate") rfl), He.int_ok X G (c.fact 112 (f := .int "MOST_KINDS" 8) rfl), He.int_ok X G (c.fact 113 (f := .int "MOST_BRANCHES" 3) rfl), He.int_ok X G (c.fact 114 (f := .int "MOST_KNOTS" 2000) rfl), He.int_ok X G (c.fact 115 (f := .int "LONGEST_NAME" 8) rfl), He.str_ok X G (c.fact 116 (f := .str "LETTERS" "abcdefghijklmnopqrstuvwxyz") rfl)⟩
  have T1 : Bk mg := ⟨T0, He.free_ok X G (c.fact 103 (f := .free "zip") rfl), He.free_ok X G (c.fact 104 (f := .free "ValueError") rfl)⟩
  have T : Bp mg := ⟨T1, He.int_ok X G (c.fact 110 (f := .int "MOST_PRICE" 1000) rfl), He.free_ok X G (c.fact 106 (f := .free "reversed") rfl), He.free_ok X G (c.fact 107 (f := .free "min") rfl)⟩
  have b_sum : mg "sum" = none := He.free_ok X G (c.fact 108 (f := .free "sum") rfl)
  have TR : Br mg := ⟨T, He.int_ok X G (c.fact 111 (f := .int "MOST_STATES" 40) rfl), b_sum⟩
  have BF : ForT K (He.ga K "Forest") := ⟨He.cls_ok (c.fact 69 (f := .cls "Forest") rfl), He.noat_ok (c.fact 71 (f := .noat "Forest" "numbers") rfl), He.noat_ok (c.fact 72 (f := .noat "Forest" "labels") rfl), He.noat_ok (c.fact 73 (f := .noat "Forest" "below") rfl), He.noat_ok (c.fact 74 (f := .noat "Forest" "sizes") rfl), He.noat_ok (c.fact 75 (f := .noat "Forest" "closed") rfl)⟩
  have BR : RdT K (He.ga K "Reader") := ⟨He.cls_ok (c.fact 61 (f := .cls "Reader") rfl), He.noat_ok (c.fact 63 (f := .noat "Reader" "bed") rfl), He.noat_ok (c.fact 64 (f := .noat "Reader" "states") rfl), He.noat_ok (c.fact 65 (f := .noat "Reader" "cells") rfl), He.noat_ok (c.fact 66 (f := .noat "Reader" "marks") rfl), He.noat_ok (c.fact 67 (f := .noat "Reader" "otherwise") rfl)⟩
  have BC : ChT K (He.ga K "Changer") := ⟨He.cls_ok (c.fact 77 (f := .cls "Changer") rfl), He.noat_ok (c.fact 79 (f := .noat "Changer" "prices") rfl), He.noat_ok (c.fact 80 (f := .noat "Changer" "reader") rfl), He.noat_ok (c.fact 81 (f := .noat "Changer" "ranks") rfl), He.noat_ok (c.fact 82 (f := .noat "Changer" "forest") rfl)⟩
  have mtLeaves := He.meth_ok (c.fact 83 (f := .meth "Bed" "leaves") rfl)
  have mtNode := He.meth_ok (c.fact 84 (f := .meth "Forest" "node_for") rfl)
  have mt_tables_of := He.meth_ok (c.fact 85 (f := .meth "Changer" "tables_of") rfl)
  have mt_table_above := He.meth_ok (c.fact 86 (f := .meth "Changer" "table_above") rfl)
  have mt_offer := He.meth_ok (c.fact 87 (f := .meth "Changer" "offer") rfl)
  have mt_is_better := He.meth_ok (c.fact 88 (f := .meth "Changer" "is_better") rfl)
  have mt_is_before := He.meth_ok (c.fact 89 (f := .meth "Changer" "is_before") rfl)
  have B : BedT K (He.ga K "Bed") := ⟨He.cls_ok (c.fact 46 (f := .cls "Bed") rfl), He.noat_ok (c.fact 48 (f := .noat "Bed" "rows") rfl), He.noat_ok (c.fact 49 (f := .noat "Bed" "kinds") rfl), He.noat_ok (c.fact 50 (f := .noat "Bed" "widths") rfl), He.noat_ok (c.fact 51 (f := .noat "Bed" "ranks") rfl)⟩
  have BP : PrT K (He.ga K "Prices") := ⟨He.cls_ok (c.fact 54 (f := .cls "Prices") rfl), He.noat_ok (c.fact 56 (f := .noat "Prices" "bed") rfl), He.noat_ok (c.fact 57 (f := .noat "Prices" "cutting") rfl), He.noat_ok (c.fact 58 (f := .noat "Prices" "swaps") rfl), He.noat_ok (c.fact 59 (f := .noat "Prices" "turns") rfl)⟩
  obtain ⟨fd_init__, F_init__⟩ := c.def_ 45 (d := dM "Bed" "__init__" "Bed.__init__" s_init__) rfl
  obtain ⟨fd_same, F_same⟩ := c.def_ 46 (d := dM "Bed" "same" "Bed.same" s_same) rfl
  obtain ⟨fd_Prices_init__, F_Prices_init__⟩ := c.def_ 47 (d := dM "Prices" "__init__" "Prices.__init__" s_Prices_init__) rfl
  obtain ⟨fd_leaves, F_leaves⟩ := c.def_ 48 (d := dM "Bed" "leaves" "Bed.leaves" s_leaves) rfl
  obtain ⟨fd_Reader_init__, F_Reader_init__⟩ := c.def_ 49 (d := dK "Reader" "__init__" "Reader.__init__" s_Reader_init__ [("otherwise", .int 0)]) rfl
  obtain ⟨fd_Forest_init__, F_Forest_init__⟩ := c.def_ 50 (d := dM "Forest" "__init__" "Forest.__init__" s_Forest_init__) rfl
  obtain ⟨fd_Forest_node_for, F_Forest_node_for⟩ := c.def_ 51 (d := dM "Forest" "node_for" "Forest.node_for" s_Forest_node_for) rfl
  obtain ⟨fd_Changer_init__, F_Changer_init__⟩ := c.def_ 52 (d := dM "Changer" "__init__" "Changer.__init__" s_Changer_init__) rfl
  obtain ⟨fd_Changer_tables_of, F_Changer_tables_of⟩ := c.def_ 53 (d := dM "Changer" "tables_of" "Changer.tables_of" s_Changer_tables_of) rfl
  obtain ⟨fd_Changer_table_above, F_Changer_table_above⟩ := c.def_ 54 (d := dM "Changer" "table_above" "Changer.table_above" s_Changer_table_above) rfl
  obtain ⟨fd_Changer_offer, F_Changer_offer⟩ := c.def_ 55 (d := dM "Changer" "offer" "Changer.offer" s_Changer_offer) rfl
  obtain ⟨fd_Changer_is_better, F_Changer_is_better⟩ := c.def_ 56 (d := dM "Changer" "is_better" "Changer.is_better" s_Changer_is_better) rfl
  obtain ⟨fd_Changer_is_before, F_Changer_is_before⟩ := c.def_ 57 (d := dM "Changer" "is_before" "Changer.is_before" s_Changer_is_before) rfl
  have gBed := He.glo_ok X G (c.fact 45 (f := .glo "Bed") rfl)
  have mkBed := He.mkr_ok (c.fact 47 (f := .mkr "Bed") rfl)
  have gPrices := He.glo_ok X G (c.fact 53 (f := .glo "Prices") rfl)
  have mkPrices := He.mkr_ok (c.fact 55 (f := .mkr "Prices") rfl)
  have gReader := He.glo_ok X G (c.fact 60 (f := .glo "Reader") rfl)
  have mkReader := He.mkr_ok (c.fact 62 (f := .mkr "Reader") rfl)
  have gForest := He.glo_ok X G (c.fact 68 (f := .glo "Forest") rfl)
  have mkForest := He.mkr_ok (c.fact 70 (f := .mkr "Forest") rfl)
  have gChanger := He.glo_ok X G (c.fact 76 (f := .glo "Changer") rfl)
  have mkChanger := He.mkr_ok (c.fact 78 (f := .mkr "Changer") rfl)
  have mtSame := He.meth_ok (c.fact 52 (f := .meth "Bed" "same") rfl)
  have gs : mg "super" = none := He.free_ok X G (c.fact 105 (f := .free "super") rfl)
  have gY := He.glo_ok X G (c.fact 109 (f := .glo "YardError") rfl)
  obtain ⟨ea0, eb0⟩ := Hx.x_of x1 x2 0 (d := xTooMany) rfl
  have FTooMany : Hx.XFacts TL.prog K xTooMany [zTooMany0, zTooMany1] := Hx.facts_of ea0 eb0 (fun z hz => by
    rcases List.mem_cons.mp hz with h | h
    · rw [h]; exact List.mem_cons_self
    · rw [List.mem_singleton.mp h]; exact List.mem_cons_of_mem _ List.mem_cons_self)
  obtain ⟨ea1, eb1⟩ := Hx.x_of x1 x2 1 (d := xInvalidPlant) rfl
  have FInvalidPlant : Hx.XFacts TL.prog K xInvalidPlant [zInvalidPlant0] := Hx.facts_of ea1 eb1 (fun z hz => by rw [List.mem_singleton.mp hz]; exact List.mem_cons_self)
  obtain ⟨ea2, eb2⟩ := Hx.x_of x1 x2 2 (d := xUnknownKind) rfl
  have FUnknownKind : Hx.XFacts TL.prog K xUnknownKind [zUnknownKind0] := Hx.facts_of ea2 eb2 (fun z hz => by rw [List.mem_singleton.mp hz]; exact List.mem_cons_self)
  obtain ⟨ea3, eb3⟩ := Hx.x_of x1 x2 3 (d := xInvalidPrices) rfl
  have FInvalidPrices : Hx.XFacts TL.prog K xInvalidPrices [zInvalidPrices0] := Hx.facts_of ea3 eb3 (fun z hz => by rw [List.mem_singleton.mp hz]; exact List.mem_cons_self)
  obtain ⟨ea4, eb4⟩ := Hx.x_of x1 x2 4 (d := xWrongBranches) rfl
  have FWrongBranches : Hx.XFacts TL.prog K xWrongBranches [zWrongBranches0, zWrongBranches1] := Hx.facts_of ea4 eb4 (fun z hz => by
    rcases List.mem_cons.mp hz with h | h
    · rw [h]; exact List.mem_cons_self
    · rw [List.mem_singleton.mp h]; exact List.mem_cons_of_mem _ List.mem_cons_self)
  have x : XS TL.prog w K mg (AK K) := ⟨sup_TooMany X G gs FTooMany, sup_InvalidPlant X G gs FInvalidPlant, sup_UnknownKind X G gs FUnknownKind, sup_WrongBranches X G gs FWrongBranches⟩
  have x51 : XP TL.prog w K mg (AK K) (He.ga K "InvalidPrices") := ⟨x, sup_InvalidPrices X G gs FInvalidPrices⟩
  have yP : Hx.ZFacts K "YardError" nsX "InvalidPrices" := Hx.zB_ok (List.all_eq_true.mp x3 _ (by simp [nsX]))
  have xc : XcP K mg (AK K) (He.ga K "InvalidPrices") (He.ga K "YardError") := ⟨gY, yP.ex, ⟨FInvalidPrices.xf, FInvalidPrices.no, FInvalidPrices.me⟩, ⟨FInvalidPlant.xf, FInvalidPlant.no, FInvalidPlant.me⟩, yP.ky, yP.kv, (yP.ki "InvalidPlant" (by simp [nsX])).trans (by decide +kernel)⟩
  refine ⟨fdL, fun s v => bnd s [v] rfl, fun base _ _ => ?_⟩
  have c_all_letters := ok_all_letters (P := TL.prog) (w := w) (base := base) T0 D_all_letters
  have c_is_name := ok_is_name (P := TL.prog) (w := w) (base := base) T0 c_all_letters D_is_name
  have c_check_pairs := ok_check_pairs (P := TL.prog) (w := w) (base := base) T0 c_is_name D_check_pairs
  have c_Bed : BedOk TL.prog w K mg base (He.ga K "Bed") 5 := by
    refine ⟨gBed, _, mkBed, ?_⟩
    obtain ⟨oc, od, dV, kV, doc, pm, an, cdv, ct, osl, rfl, lk, hcd, hdv, _⟩ := F_init__.ex
    have hd : dV = .none := by
      rcases hdv with ⟨_, h⟩ | h
      · exact h
      · exact absurd rfl h.1
    subst hd
    refine (StX.fn_star (ps := ["self"]) (pv := "kinds") lk hcd sc_init__ StX.cxUp_none (StX.bind_star1 (B := fun us => bindArgs (PySem.W.fnOf "__init__" "Bed.__init__" (defArgs s_init__) (defBody s_init__) (defScope s_init__) .none kV doc pm an cdv ct) ⟨us, []⟩) (fun _ => rfl) (fun _ _ _ => rfl)) (sp := spBedI (He.ga K "Bed")) (k := 3) fun A outer s H vs Q E hr hsp => ?_).mono (by decide)
    obtain ⟨t, a, b⟩ := body_bedI T0 B c_check_pairs hr hsp
    exact ⟨t, a.nox, b⟩
  have c_check_size := ok_check_size (P := TL.prog) (w := w) (base := base) T1 x D_check_size
  have c_fault_place := ok_fault_place (P := TL.prog) (w := w) (base := base) T1 B D_fault_place
  have c_check_plant := ok_check_plant (P := TL.prog) (w := w) (base := base) T1 x c_check_size c_fault_place D_check_plant
  have c_law_pick := ok_pick51 (P := TL.prog) (w := w) (base := base) T0 D__law_pick
  have c_law_cell := ok_cell51 (P := TL.prog) (w := w) (base := base) T0 D__law_cell
  have c_law_box := ok_box51 (P := TL.prog) (w := w) (base := base) T0 c_law_cell D__law_box
  have c_law_number := ok_num51 (P := TL.prog) (w := w) (base := base) T0 c_law_pick D__law_number
  have c_law_letters := ok_let51 (P := TL.prog) (w := w) (base := base) T0 c_law_pick D__law_letters
  have c_law_kinds := ok_kinds51 (P := TL.prog) (w := w) (base := base) T0 c_law_pick c_law_letters D__law_kinds
  have c_law_arity := ok_arity51 (P := TL.prog) (w := w) (base := base) T0 D__law_arity
  have c_law_made_bed := ok_bed51 (P := TL.prog) (w := w) (base := base) T0 c_Bed D__law_made_bed
  have c_law_integer := ok_integer51 (P := TL.prog) (w := w) (base := base) T0 D__law_integer
  have c_law_swaps := ok_swaps51 (P := TL.prog) (w := w) (base := base) T0 c_law_pick c_law_number D__law_swaps
  have c_is_price := ok_ispr (P := TL.prog) (w := w) (base := base) T D_is_price
  have c_check_swaps := ok_chksw (P := TL.prog) (w := w) (base := base) T x51 B c_is_price D_check_swaps
  have c_Prices : PricesC TL.prog w K mg base (He.ga K "Bed") (He.ga K "Prices") (He.ga K "InvalidPrices") 4 := by
    refine ⟨gPrices, _, mkPrices, ?_⟩
    obtain ⟨oc, od, dV, kV, doc, pm, an, cdv, ct, osl, rfl, lk, hcd, hdv, _⟩ := F_Prices_init__.ex
    have hd : dV = .none := by
      rcases hdv with ⟨_, h⟩ | h
      · exact h
      · exact absurd rfl h.1
    subst hd
    refine StX.fn_star (ps := ["self", "bed", "cutting"]) (pv := "swaps") lk hcd sc_Prices_init__ StX.cxUp (fun us rest hl => match us, rest, hl with
      | [_, _, _], [], _ => rfl
      | [_, _, _], _ :: _, _ => rfl) (sp := spPrI (He.ga K "Bed") (He.ga K "Prices") (He.ga K "InvalidPrices")) (k := 3) fun A outer s H vs Q E hr hsp => ?_
    exact body_pri T x51 B BP c_is_price c_check_swaps hr hsp
  have c_law_made_prices := ok_mkpr (P := TL.prog) (w := w) (base := base) T c_Prices D__law_made_prices
  have c_same : SmOk TL.prog w K mg base (He.ga K "Bed") := ok_same B F_same mtSame
  have c_law_plant := ok_plant51 (P := TL.prog) (w := w) (base := base) T0 c_law_pick D__law_plant
  have c_law_chain := ok_chain51 (P := TL.prog) (w := w) (base := base) T0 c_law_pick D__law_chain
  have c_law_fault := ok_fault51 (P := TL.prog) (w := w) (base := base) T0 D__law_fault
  have c_law_spoilt := ok_spoilt51 (P := TL.prog) (w := w) (base := base) T0 c_law_pick D__law_spoilt
  have c_law_tuples := ok_tuples52 (P := TL.prog) (w := w) (base := base) T0 D__law_tuples
  have c_law_ways := ok_ways52 (P := TL.prog) (w := w) (base := base) T0 D__law_ways
  have c_rows_from := ok_rows_from (P := TL.prog) (w := w) (base := base) T0 D_rows_from
  have c_law_reader := ok_reader52 (P := TL.prog) (w := w) (base := base) T c_law_pick c_law_tuples D__law_reader
  have c_check_states := ok_states52 (P := TL.prog) (w := w) (base := base) TR D_check_states
  have c_are_states := ok_are52 (P := TL.prog) (w := w) (base := base) T0 D_are_states
  have c_check_marks := ok_marks52 (P := TL.prog) (w := w) (base := base) T0 D_check_marks
  have c_rows_by_kind := ok_bykind52 (P := TL.prog) (w := w) (base := base) T0 B c_are_states D_rows_by_kind
  have c_Forest := ok_forU (P := TL.prog) (w := w) (base := base) BF gForest F_Forest_init__ mkForest
  have c_node := ok_nodU (P := TL.prog) (w := w) (base := base) T0 b_sum BF F_Forest_node_for mtNode
  have c_leaves := ok_leaves (P := TL.prog) (w := w) (base := base) T0 B F_leaves mtLeaves
  have c_is_before := ok_befU (P := TL.prog) (w := w) (base := base) T1 BC BF F_Changer_is_before mt_is_before
  have c_is_better := ok_betU (P := TL.prog) (w := w) (base := base) T1 BC c_is_before F_Changer_is_better mt_is_better
  have c_offer := ok_offU (P := TL.prog) (w := w) (base := base) T1 BC BR c_is_better F_Changer_offer mt_offer
  have c_tab := ok_tabU (P := TL.prog) (w := w) (base := base) TR B BP BC BF c_leaves c_rows_from c_offer c_node F_Changer_table_above mt_table_above
  have c_tabs := ok_tbsU (P := TL.prog) (w := w) (base := base) TR B BP BC c_tab F_Changer_tables_of mt_tables_of
  have c_Changer := ok_chC (P := TL.prog) (w := w) (base := base) T0 B BP BC c_Forest gChanger F_Changer_init__ mkChanger
  have c_Reader := ok_rdC (P := TL.prog) (w := w) (base := base) T0 B BR c_check_states c_are_states c_check_marks c_rows_by_kind gReader F_Reader_init__ mkReader
  have c_law_made_reader := ok_mkrd52 (P := TL.prog) (w := w) (base := base) T0 c_Reader D__law_made_reader
  have c_law_rank := ok_rank52 (P := TL.prog) (w := w) (base := base) T0 D__law_rank
  have c_law_lesser := ok_less52 (P := TL.prog) (w := w) (base := base) T0 D__law_lesser
  have c_law_steps := ok_steps52 (P := TL.prog) (w := w) (base := base) T0 D__law_steps
  have c_law_offer := ok_offer52 (P := TL.prog) (w := w) (base := base) T0 c_law_lesser D__law_offer
  have c_law_knot := ok_knot52 (P := TL.prog) (w := w) (base := base) T0 c_law_offer c_law_ways D__law_knot
  have c_law_due := ok_due52 (P := TL.prog) (w := w) (base := base) T c_law_fault c_law_rank c_law_steps c_law_knot c_law_offer D__law_due
  have c_entries_of := ok_entries_of (P := TL.prog) (w := w) (base := base) T0 BF D_entries_of
  have c_check_beds := ok_check_bedsU (P := TL.prog) (w := w) (base := base) T0 B c_same D_check_beds
  have c_cheapest_change := ok_chpc52 (P := TL.prog) (w := w) (base := base) TR BR BC BF c_Changer c_tabs c_is_better c_node D_cheapest_change
  have c_cheapest := ok_chp52 (P := TL.prog) (w := w) (base := base) T BP BR c_check_beds c_check_plant c_cheapest_change c_entries_of D_cheapest
  have c_law_told := ok_told52 (P := TL.prog) (w := w) (base := base) T x51 xc c_cheapest D__law_told
  have c_law_right := ok_right52 (P := TL.prog) (w := w) (base := base) T c_law_told c_law_integer D__law_right
  exact ok_law T c_law_pick c_law_box c_law_number c_law_kinds c_law_arity c_law_made_bed c_law_swaps c_law_reader c_law_made_reader c_law_made_prices c_law_plant c_law_chain c_law_spoilt c_law_due c_law_right F_law
end Sh
end
set_option Elab.async false
set_option linter.all false
set_option maxRecDepth 100000
set_option maxHeartbeats 4000000
open PySem PySem.W PySem.Calls PyProof.Rows
theorem PySem.Challenge.cw_shearyard_k52_cheapest_change_holds : PySem.Challenge.rw_shearyard_k52_cheapest_change.Holds := by
  w_on; o_law
  refine HandSHeadRun.head_any (r := OpenLaw.row PySem.Challenge.rw_shearyard_k52_cheapest_change) (q := view (OpenLaw.row PySem.Challenge.rw_shearyard_k52_cheapest_change).prog [80]) (H := Sh.hk) (ob := Sh.ob) (M := 9000) (loose := Sh.names) (d := HandSHeadRun.topDef (OpenLaw.row PySem.Challenge.rw_shearyard_k52_cheapest_change).prog 80) (kwd := []) Sh.ob_eq
    (by kernel_rfl) (fun s => by kernel_rfl) Sh.run (by kernel_rfl) (by kernel_rfl) (by kernel_rfl) (by rfl) (by first | assumption | decide +kernel) (by decide +kernel) ⟨rfl, rfl, rfl, rfl, rfl, by decide +kernel⟩ ?hw ?hc
  case hw => w_witness2
  case hc =>
    refine L2.walk_ofE (l := PySem.Challenge.rw_shearyard_k52_cheapest_change) (n := 63) (k := 11) (x := "script") (CX := L2.CX0) rfl (by decide) (by kernel_rfl) ⟨rfl, by decide, by decide⟩ ?F (fun _ _ _ _ z => z)
    intro w mg fa h Y G hmg0
    obtain ⟨K, KX, c, x1, x2, x3⟩ := Y
    have hmg : mg ("law" : PySem.Str) = some (.ref fa) := by
      have e : (HandSHeadRun.topDef (OpenLaw.row PySem.Challenge.rw_shearyard_k52_cheapest_change).prog 80).name = ("law" : PySem.Str) := by kernel_rfl
      rw [← e]
      exact hmg0
    obtain ⟨fd, hb, hF⟩ := Sh.facts (w := w) KX G hmg c x1 x2 x3
    exact ⟨K, fd, Sh.spLaw K, KX, hb, fun H a ns hn _ hS => ⟨a, ns, rfl, hS, hn, fun _ => rfl⟩, hF⟩
