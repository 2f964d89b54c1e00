import PyProof.Rows.All
import Wide.All
import OpenK.AllK
import Wide.FinOn
import HandS.ForMost
import HandS.OwnEq
import HandS.SlotsOwn
import HandS.Property
import HandS.MakeKw
import HandS.MakeKwOnly
import HandS.IsInst
import HandS.Gcd
import HandS.Wide
import HandS.WideBits
import HandS.FStr
import KE.KFmtOwn
import HandS.ExcInit
import HandS.ExcIs
import HandS.ExcField
import HandS.ExcValue
import KE.KExcInit
import HandS.Head0
import HandS.Head1
import HandS.Head2
import HandS.HeadEnd
import HandS.HeadHook1
import HandS.HeadHook2
import PySem.Challenge.RW_seriesforms_k01_constants_and_errors
import KE.RegKIsAll
set_option Elab.async false
set_option maxRecDepth 100000
set_option maxHeartbeats 4000000
set_option linter.all false
/-! A def's promise where it is known that no guard runs (a container may be shown). -/
namespace SF
open PySem PySem.Spec PyProof.Rows L2

structure FnG (P : Program) (w : World) (K : PySem.W.Frag) (mg : Str → Option Value) (base : Heap) (CX : CXT) (k : Nat) (f : Addr) (fd : FuncData) (ps : List Str) (sp : Sp) : Prop where
  len : ∀ vs H Q E, sp vs H Q E → vs.length = ps.length
  run : ∀ (A : Around) (outer : List Env) (s : Shared) (H : Hp) (args : Args) (us : List Value) (vs : List V) (Q : VK) (E : XK), A.guards = some [] → Room k A → Env0 P w K mg base A outer s H → BindsTo s fd args (ps.zip us) → Vals vs us → sp vs H Q E →
    codeAny (model P w) A (.call (.ref f) args) (CR CX outer P w H s Q E) s

section
variable {X : Cx} {CX : CXT} {k : Nat} {f : Addr} {fd : FuncData} {ps : List Str} {sp : Sp} {dvs : List V} {ds : List Value} {E : XK} {x : Str} {p pos : Pos} {e : Expr} {es : List Expr} {t : TA}
theorem run_fnG {pins : List (Addr × Obj)} {σ : L2.St} {H : Hp} {s : Shared} {Q : VK} {us : List Value} {vs : List V} (F : FnG X.prog X.w X.K X.mg X.base CX k f fd ps sp) (hgd : X.A.guards = some []) (hr : Room k X.A) (hb : Binds X.K fd ps ds) (hd : Vals dvs ds) (hx : Passes CX X E)
    (I : Inv X pins σ H s) (r : Vals vs us) (h : sp (vs ++ dvs) H Q E) : wpAny (model X.prog X.w) X.A (call (.ref f) us) (EP X pins σ Q) X.xe s := by
  have r2 : Vals (vs ++ dvs) (us ++ ds) := r.append hd
  have hl : (us ++ ds).length = ps.length := by rw [← r2.length]; exact F.len _ _ _ _ h
  refine wpAny_call (codeAny_mono (F.run X.A X.stack s H ⟨us, []⟩ (us ++ ds) (vs ++ dvs) Q E hgd hr I.env0 (hb s us I.kIn hl) r2 h) fun r s' hq => ?_)
  cases r with
  | error e => exact hx pins σ H s e s' I hq
  | ok fl =>
    cases fl with
    | ret u => exact I.after hq
    | next => exact False.elim hq
    | brk => exact False.elim hq
    | cont => exact False.elim hq
theorem pe_callG (F : FnG X.prog X.w X.K X.mg X.base CX k f fd ps sp) (hgd : X.A.guards = some []) (hr : Room k X.A) (hg : Gl X x) (hm : X.mg x = some (.ref f)) (hk : PySem.W.keepIn X.K (.ref f) = true) (hb : Binds X.K fd ps ds) (hd : Vals dvs ds) (hx : Passes CX X E)
    (ha : PA X (e :: es) t) (hdb : (x == ("__debug__" : Str)) = false := by decide) (he : starEach (e :: es) X.env = (false, eval e X.env) :: starEach es X.env := by rfl) (hpl : (backTo pos (starEach es X.env)).any (·.1) = false := by rfl) :
    PE X (.Call (.Name x p) (e :: es) [] pos) (tCall sp dvs E t) := by
  refine ⟨fun pins s σ H Q I h => ?_⟩
  refine wpAny_Call_Name_kw (ld_glob I hg hm ?_ hdb)
  refine PySem.W.callWith_K (h₀ := X.base) I.ok.mod.kin hk (thn (ha.run pos pins s σ H _ I h) fun us s1 ⟨vs, H1, I1, r, q⟩ => ⟨I1.kIn, ?_⟩) he hpl
  exact run_fnG F hgd hr hb hd hx I1 r q
end

theorem fn_ofG {CX : CXT} {P : Program} {w : World} {K : PySem.W.Frag} {mg : Str → Option Value} {base : Heap} {k : Nat} {f : Addr} {name qual : Str} {params : Arguments} {body : List Stmt} {scope : Scope} {dV kV doc pm cdv ct oc : Value} {an od : Option Addr}
    {osl : Array (Option Value)} {N ps : List Str} {sp : Sp} (lk : K.lookup f = some ⟨oc, od, .func (PySem.W.fnOf name qual params body scope dV kV doc pm an cdv ct), osl⟩) (hcd : PySem.W.codeIn K cdv qual = true) (S : FnScope N ps scope)
    (len : ∀ vs H Q E, sp vs H Q E → vs.length = ps.length)
    (hbody : ∀ (A : Around) (outer : List Env) (s : Shared) (H : Hp) (vs : List V) (Q : VK) (E : XK), A.guards = some [] → Room k (A.deeper (envOfC qual scope s.heap.objs.size f cdv)) → sp vs H Q E →
      ∃ t, PSs (cxOf CX P w K mg base N qual scope f cdv A outer s H E) body t ∧ t { nx := fun _ H' => Q .non H', rt := Q } (start N vs) H) :
    FnG P w K mg base CX (k + 1) f (PySem.W.fnOf name qual params body scope dV kV doc pm an cdv ct) ps sp := by
  refine ⟨len, fun A outer s H args us vs Q E hgd hr e0 hb r hsp => ?_⟩
  have hl := len _ _ _ _ hsp
  have KX : K.In s.heap := e0.mod.kin.keeps fun b o e => (e0.bs b o e).1
  have lim : s.heap.NoLimit := e0.mod.nolimit.keeps fun b o e => (e0.bs b o e).1
  have hkind : ∀ y ∈ ps.zip us, scope.names.lookup y.1 = some .local ∨ (scope.names.lookup y.1 = some .cell ∧ ((cellsFrom (s.heap.objs.size + 1) scope.names []).lookup y.1).isSome = true) := fun ⟨n, v⟩ hy => by
    rcases S.par n (List.of_mem_zip hy).1 with q | q
    · exact .inl q
    · exact .inr ⟨q, PySem.W.cellsFrom_some _ _ _ (.inl q)⟩
  refine codeAny_call_function hr.depth (KX _ _ lk) rfl S.co S.gen rfl (PySem.W.codeRec_of KX hcd) (hb _ _ _ _ ?_)
  refine wpAny_newFunctionEnv_cells S.kind hkind fun env he s1 x => ?_
  subst he
  refine ⟨lim.keeps x.toInCall.keep, codeAny_func ?_⟩
  obtain ⟨t, ht, hq⟩ := hbody A outer s H vs Q E hgd (hr.deeper _) hsp
  have I : Inv (cxOf CX P w K mg base N qual scope f cdv A outer s H E) [] (start N vs) H s1 := inv_start S hr.hd e0 hl r x
  refine wpAny_mono (ht.run [] s1 (start N vs) H _ I hq) (fun fl s' hs => ?_) fun e s' hs => hs
  have fin : ∀ {σ' : L2.St} {H' : Hp} {v : V} {u : Value}, Inv (cxOf CX P w K mg base N qual scope f cdv A outer s H E) [] σ' H' s' → RelV v u → Q v H' → CE outer P w H s Q u s' :=
    fun {σ' H' v u} J rv q => ⟨v, H', J.os, J.bare, J.base, J.hok, rv, q⟩
  cases fl with
  | ret u =>
    obtain ⟨v, σ', H', J, rv, q⟩ := hs
    exact fin J rv q
  | next =>
    obtain ⟨σ', H', J, q⟩ := hs
    exact fin (v := V.non) (u := Value.none) J rfl q
  | brk =>
    obtain ⟨_, _, _, q⟩ := hs
    exact False.elim q
  | cont =>
    obtain ⟨_, _, _, q⟩ := hs
    exact False.elim q

section
variable {P : Program} {w : World} {K : PySem.W.Frag} {mg : Str → Option Value} {base : Heap}
theorem okG {x qual : Str} {st : Stmt} {f : Addr} {fd : FuncData} {N ps : List Str} {k : Nat} {sp : Sp} (F : Fun K x qual st f fd) (S : FnScope N ps (defScope st)) (len : ∀ vs H Q E, sp vs H Q E → vs.length = ps.length)
    (hbody : ∀ (cdv : Value) (A : Around) (outer : List Env) (s : Shared) (H : Hp) (vs : List V) (Q : VK) (E : XK), A.guards = some [] → Room k (A.deeper (envOfC qual (defScope st) s.heap.objs.size f cdv)) → sp vs H Q E →
      ∃ t, PSs (cxOf CX0 P w K mg base N qual (defScope st) f cdv A outer s H E).nox (defBody st) t ∧ t { nx := fun _ H' => Q .non H', rt := Q } (start N vs) H) : FnG P w K mg base CX0 (k + 1) f fd ps sp := by
  obtain ⟨oc, od, kV, doc, pm, an, cdv, ct, osl, rfl, lk, hcd⟩ := F.ex
  refine fn_ofG lk hcd S len fun A outer s H vs Q E hgd hr hsp => ?_
  obtain ⟨t, h, q⟩ := hbody cdv A outer s H vs Q E hgd hr hsp
  exact ⟨t, h.nox, q⟩
end
example (A : Around) (e : Env) (h : A.guards = some []) : (A.deeper e).guards = some [] := h
example (A : Around) (h : A.guards = some []) : (A.in1).guards = some [] := h
example : callerA.guards = some [] := rfl
end SF

/-! Own exceptions held as values: isinstance and fields. -/
namespace SX
open PySem PySem.Spec PySem.W PySem.Calls PyProof.Rows L2 SF
/-- at a: an exception of the own class at D, not raised; fs: what it was given -/
def ExA (H : Hp) (a D : Addr) (fs : List (Str × V)) : Prop := (∃ d, H a = some (exo a D (some d)) ∧ H d = some (exd d fs)) ∨ (fs = [] ∧ H a = some (ExO (.ref D) a))
theorem ExA.same {H H' : Hp} {a D : Addr} {fs : List (Str × V)} (e : ExA H a D fs) (s : ∀ b o, H b = some o → H' b = some o) : ExA H' a D fs := by
  rcases e with ⟨d, h1, h2⟩ | ⟨h0, h1⟩
  · exact .inl ⟨d, s _ _ h1, s _ _ h2⟩
  · exact .inr ⟨h0, s _ _ h1⟩
section
variable {prog : Program} {w : World} {A : Around} {E : Value → Shared → Prop} {s : Shared} {K : Frag} {x D : Addr} {ox : Obj} {od : Option Obj}
theorem find_data {a g : Value} {name : Str} (hc : (clsIn K D).isSome = true) (ha : findIn K (.ref D) name = some (some a)) (hg : specialIn K a "__get__" = some (some g)) (ht : takesIn K a = some true) : findObj K D od name = some (.bind g a) := by
  obtain ⟨cd, hc⟩ := Option.isSome_iff_exists.mp hc
  unfold findObj
  rw [hc, Option.bind_some, ha, Option.bind_some]
  simp [hg, ht]
theorem cls_isSome (h : hasDictIn K D = true) : (clsIn K D).isSome = true := by
  obtain ⟨cd, hc, _⟩ := any_some h
  rw [hc]
  rfl
/-- x.__class__, whatever dict the exception has -/
theorem class_ask {Q : Option Value → Shared → Prop} (C : ExcC K D) (X : K.In s.heap) (I : InstAt s.heap x ox D od) (h : Q (some (.ref D)) { s with toks := s.toks + 1 }) : wpAny (model prog w) A (getAttr? (.ref x) "__class__") Q E s := by
  have hf : findObj K D od "__class__" = some (.bind (.builtin "getset_descriptor.__get__") (.builtin "object.__class__")) := find_data (cls_isSome C.hd) C.ha C.hn C.ht
  obtain ⟨hp, g, d, t, os⟩ := s
  have L0 := I.type (M := model prog w)
  have L1 := looks_findIn (M := model prog w) X C.hg
  have L2 := looks_findIn (M := model prog w) X C.hk
  have L3 := looks_find (M := model prog w) X I hf
  have sub : Looks (model prog w) hp (isInstance (.ref x) (.type "BaseException")) true := L0.andThen (looks_subIn X C.hs)
  have n0 : (false && onTheHeap (Value.builtin "BaseException.__getattribute__")) = false := rfl
  have n2 : (Value.builtin "BaseException.__getattribute__" == Value.builtin "object.__getattribute__") = false := by decide +kernel
  have n1 : (onTheHeap (Value.ref D) && Value.builtin "BaseException.__getattribute__" == Value.builtin "object.__getattribute__") = false := by rw [n2]; rfl
  unfold getAttr? getAttrBy? getAttrBy
  refine wpAny_bind (wpAny_mkText (wpAny_bind (wpAny_attempt (wpAny_holding (wpAny_bind (L0.at (wpAny_bind (L1.at ?_))))))))
  show wpAny _ _ (if (onTheHeap (Value.ref D) && Value.builtin "BaseException.__getattribute__" == Value.builtin "object.__getattribute__") = true then _ else _) _ _ _
  rw [n1, if_neg Bool.false_ne_true]
  unfold getAttrByItsOwn hookBefore
  refine wpAny_bind ?_
  rw [if_pos (show onTheHeap (Value.ref D) = true from rfl)]
  refine L2.at ?_
  refine wpAny_bind (wpAny_attempt (wpAny_holding ?_))
  unfold callGetattribute
  rw [n0, if_neg Bool.false_ne_true]
  unfold boundAndCalled
  rw [PySem.F.excAttr_ValueError.ga.bind (.ref x)]
  refine wpAny_bind (wpAny_pure ?_)
  show wpAny _ _ (call (.builtin "BaseException.__getattribute__") [.ref x, .str "__class__" t]) _ _ _
  refine wpAny_call (codeAny_call_builtin PySem.F.excAttr_ValueError.ga.plain PySem.F.entry_bexc_ga ?_)
  refine @check_slot (model prog w) _ _ ⟨hp, g, d, t + 1, os⟩ "BaseException.__getattribute__" "BaseException" "__getattribute__" (.ref x) [.str "__class__" t] [] _ (by decide +kernel) (by decide +kernel) sub (PySem.F.args_bexc_ga (.ref x) (.str "__class__" t)) ?_
  unfold Builtin.«object.__getattribute__»
  refine wpAny_bind (wpAny_of_eq (a := ((Value.ref x : Value), [Value.str "__class__" t])) (by first | rfl | (simp only [slotArgs]; rfl)) ?_)
  refine wpAny_bind (wpAny_pure (wpAny_bind (L0.at (wpAny_bind (L3.at ?_)))))
  show wpAny _ _ (holding [Value.builtin "object.__class__"] (call (.builtin "getset_descriptor.__get__") [.builtin "object.__class__", .ref x, .ref D]) >>= ret) _ _ _
  refine wpAny_bind (wpAny_holding (wpAny_call (class_get (s := ⟨hp, g, d, t + 1, os⟩) (ox := ox) (od := od) X I C.hm ?_)))
  refine wpAny_pure ?_
  show wpAny _ _ (handedOut (.ref D)) _ _ _
  rw [handedOut_of (v := .ref D) rfl]
  first
    | exact wpAny_pure (wpAny_pure h)
    | exact wpAny_pure h
    | exact wpAny_pure (wpAny_bind (wpAny_pure (wpAny_pure h)))
theorem cls_obj (hd : hasDictIn K D = true) : ∃ cls dict cd sl, K.lookup D = some ⟨cls, dict, .cls cd, sl⟩ := by
  have h := cls_isSome hd
  unfold clsIn at h
  split at h
  · rename_i c' d' cd' sl' ho
    exact ⟨c', d', cd', sl', ho⟩
  · cases h
theorem kit_exc (C : ExcC K D) : KitX K (.ref x) (.ref D) (fun h => InstAt h x ox D od) where
  ty := fun _ _ _ I => I.type
  it := fun _ _ X _ => by
    obtain ⟨_, _, _, _, ho⟩ := cls_obj C.hd
    intro A' Q' E' s' k q
    unfold isType loadHead
    exact wpAny_bind (wpAny_loadPart (k _ _ (X _ _ ho)) (wpAny_pure q))
  ne := fun h tp dd its n sl X htp => by
    obtain ⟨_, _, _, _, ho⟩ := cls_obj C.hd
    refine Bool.eq_false_iff.mpr fun q => ?_
    have e : D = tp := Value.ref.inj (beq_iff_eq.mp q)
    subst e
    have z := (X _ _ ho).symm.trans htp
    cases z
  ca := fun X I k => class_ask C X I k
end
section
variable {X : Cx} {pins : List (Addr × Obj)} {σ : L2.St} {H : Hp} {s : Shared} {a D : Addr} {fs : List (Str × V)}
/-- the exception's object, its dict's object -/
theorem exA_inst (I : Inv X pins σ H s) (e : ExA H a D fs) : ∃ (ox : Obj) (od : Option Obj), InstAt s.heap a ox D od ∧ ∀ f v, fs.lookup f = some v → ∃ o u, od = some o ∧ lookIn f o = some (some u) ∧ RelV v u := by
  rcases e with ⟨d, h1, h2⟩ | ⟨rfl, h1⟩
  · obtain ⟨t1, ho⟩ := exo_at I.hok h1
    obtain ⟨mA, hns, hr⟩ := exd_at I.hok h2
    obtain ⟨od, hod, hl⟩ := lookIn_ns hns
    refine ⟨_, some od, ⟨ho, rfl, rfl, hod⟩, fun f v hf => ?_⟩
    obtain ⟨u, hu, ru⟩ := RelO.some_of (v := v) (o := mA f) (by rw [← hf]; exact hr f)
    exact ⟨od, u, rfl, by rw [hl, hu], ru⟩
  · obtain ⟨⟨oe, vs, ho, hz, hd, _⟩, _, _⟩ := I.hok a _ h1
    refine ⟨oe, none, ⟨ho, hz.1, by unfold PySem.W.notCls; rw [hd] <;> rfl, by rw [hz.2]; trivial⟩, fun f v hf => ?_⟩
    cases hf
/-- isinstance(e, C) -/
def rIsX (K : PySem.W.Frag) : List V → Hp → VK → Prop := fun xs H Q => ∃ (a D : Addr) (fs : List (Str × V)) (c : V) (u : Value) (b : Bool), xs = [.ref a, c] ∧ ClsV c u ∧ ExA H a D fs ∧ ExcC K D ∧ PySem.W.kitOne K (.ref D) u = some b ∧ Q (.bl b) H
theorem call_isX : CallR X (.builtin "isinstance") (rIsX X.K) := by
  intro pins s σ H xs us Q I r h
  obtain ⟨a, D, fs, c, u, b, rfl, k, ea, C, e, q⟩ := h
  obtain ⟨u1, u2, rfl, r1, r2⟩ := vals2 r
  have e2 := k.eq r2
  subst e2
  cases (show u1 = Value.ref a from r1)
  obtain ⟨ox, od, J, _⟩ := exA_inst I ea
  exact PySem.W.kia_one (kit_exc C) I.kIn J e (fun z => nomatch z) fun tk => ⟨.bl b, H, I.tok tk, rfl, q⟩
/-- e.f -/
def tFldX (K : PySem.W.Frag) (f : Str) (te : TE) : TE := fun σ H Q => te σ H fun x H1 => ∃ (a D : Addr) (fs : List (Str × V)) (v : V), x = .ref a ∧ ExA H1 a D fs ∧ XfC K D ∧ PySem.W.findIn K (.ref D) f = some none ∧ fs.lookup f = some v ∧ Q v H1
theorem pe_fldX {e : Expr} {te : TE} {pos : Pos} {n : Str} (he : PE X e te) (hb : attributeBase e n X.env (eval e X.env) = eval e X.env := by rfl) : PE X (.Attribute e n pos) (tFldX X.K n te) := by
  refine ⟨fun pins s σ H Q I h => ?_⟩
  refine attr_of hb (thn (he.run pins s σ H _ I h) fun u s1 hh => ?_)
  obtain ⟨x, H1, I1, rx, a, D, fs, v, rfl, ea, T, hno, l, q⟩ := hh
  obtain rfl : u = Value.ref a := rx
  obtain ⟨ox, od, J, hl⟩ := exA_inst I1 ea
  obtain ⟨o, u, rfl, hu, ru⟩ := hl n v l
  exact HandSPX.exc_get I1.kIn J T.ga T.gg T.exC (PySem.W.findObj_own T.hdC hno rfl hu) (handed_of ru) ⟨v, H1, I1.tok _, ru, q⟩
end
end SX

/-! Own exceptions made as values, by position and by name. -/
namespace SX
open PySem PySem.HandSPX
section
variable {M : Model} {A : Around} {E : Value → Shared → Prop} {h : Heap} {g : Array GenState} {d : Drawn} {t : Nat} {os : OsState}
variable {nm q : Str} {C N : Addr} {bs bm bmB : List Value} {hdct : Bool} {sn : List Str} {sub : List Value} {ab : Bool} {col : Option Bool} {dd : Option Addr} {k0 k1 k2 k3 k5 : Option Value} {B newId initId : String}
theorem check_new_kw (F : ExcBaseFacts B newId initId bmB) (hT : ∀ X : String, bm.contains (.type X) = bmB.contains (.type X)) {rest : List Value} {kw : List (Str × Value)} {Q : Unit → Shared → Prop}
    (hC : h.get? C = some (excClassObj nm q C N bs bm hdct sn sub ab col dd k0 k1 k2 k3 k5 newId)) (hq : Q () ⟨h, g, d, t, os⟩) : wpAny M A (checkBuiltinCall newId ⟨.ref C :: rest, kw⟩) Q E ⟨h, g, d, t, os⟩ := by
  have hcont : (Value.ref C :: bm).contains (.type B) = true := by rw [List.contains_cons, hT, F.hasB, Bool.or_true]
  have hstar := F.noStar
  simp only [checkBuiltinCall, F.newKind, F.newSplit, F.newRow]
  repeat (first | refine wpAny_loadPart_at hC ?_ | (refine wpAny_isSubtype_exc hC ?_; rw [hcont]) | refine wpAny_staticBase_exc hC ?_ | refine wpAny_madeBy_exc hC ?_ | simp only [bne_self_eq_false, Bool.false_eq_true, if_false] | wp_step)
  exact hq
end
section
variable {prog : Program} {w : World} {A : Around} {E : Value → Shared → Prop} {R : Result → Shared → Prop} {h : Heap} {g : Array GenState} {d : Drawn} {t : Nat} {os : OsState}
variable {nm q : Str} {C N : Addr} {bs bm bmB : List Value} {hdct : Bool} {sn : List Str} {sub : List Value} {ab : Bool} {col : Option Bool} {dd : Option Addr} {k0 k1 k2 k3 k5 : Option Value} {B newId initId : String}
theorem new_kw (F : ExcBaseFacts B newId initId bmB) (hT : ∀ X : String, bm.contains (.type X) = bmB.contains (.type X)) {rest : List Value} {kw : List (Str × Value)}
    (hC : h.get? C = some (excClassObj nm q C N bs bm hdct sn sub ab col dd k0 k1 k2 k3 k5 newId))
    (hq : R (.ok (.ret (.ref (h.objs.size + 1)))) ⟨(h.push { cls := .type "tuple", data := .seq rest.toArray }).push
      { cls := .ref C, data := .fields #[.ref h.objs.size, .none, .none, .none, .bool false, .none] }, g, d, t, os⟩) (hrest : rest.length ≤ sizeLine) :
    codeAny (model prog w) A (.builtin newId ⟨.ref C :: rest, kw⟩) R ⟨h, g, d, t, os⟩ := by
  have hends := F.ends
  have hcB : (Value.ref C :: bm).contains (.type B) = true := by rw [List.contains_cons, hT, F.hasB, Bool.or_true]
  have hcA : (Value.ref C :: bm).contains (.type "AttributeError") = false := by rw [List.contains_cons, hT, F.noAttr]; rfl
  have hcN : (Value.ref C :: bm).contains (.type "NameError") = false := by rw [List.contains_cons, hT, F.noName]; rfl
  refine codeAny_builtinAt F.entry ?_
  unfold Builtin.«BaseException.__new__»
  refine wpAt_bind ?_
  show wpAt _ _ _ (stack >>= _) _ _ _
  refine wpAt_bind (wpAt_stack fun p below => wpAt_of_wpAny ?_)
  wp_walk
  refine wpAt_of_wpAny ?_
  rw [F.owner]
  repeat (first | with_reducible refine wpAny_madeHere_exc F.canon hC ?_ | with_reducible refine wpAny_loadPart_at hC ?_ | (with_reducible refine wpAny_isSubtype_exc hC ?_; first | rw [hcB] | rw [hcA] | rw [hcN]) | wp_step)
  show R _ _
  rw [Heap.size_push]
  exact hq

theorem type_call_kw (F : ExcBaseFacts B newId initId bmB) (hT : ∀ X : String, bm.contains (.type X) = bmB.contains (.type X)) {rest : List Value} {kw : List (Str × Value)} {fI : Addr} {Q : Fin → Shared → Prop}
    (hC : h.get? C = some (excClassObj nm q C N bs bm hdct sn sub ab col dd k0 k1 k2 k3 k5 newId))
    (hi : W.Looks (model prog w) h (typeLookup (.ref C) "__init__") (some (.ref fI))) (hb : ∀ self, W.Looks (model prog w) h (bindSpecial (.ref fI) self) (.ref fI, [self])) (hrest : rest.length ≤ sizeLine)
    (hq : codeAny (model prog w) A (.call (.ref fI) ⟨.ref (h.objs.size + 1) :: rest, kw⟩)
      (fun r s' => match r with | .ok (.ret v) => v = .none ∧ Q (.done (.ret (.ref (h.objs.size + 1)))) s' | .ok _ => False | .error e => E e s')
      ⟨(h.push (W.kdv_tup rest)).push (excO C h.objs.size), g, d, t, os⟩) :
    wpAny (model prog w) A (Builtin.«type.__call__» ⟨.ref C :: rest, kw⟩) Q E ⟨h, g, d, t, os⟩ := by
  repeat (first | with_reducible refine wpAny_loadPart_at hC ?_ | with_reducible refine wpAny_madeBy_exc hC ?_ | wp_step)
  refine codeAny_call_builtin_code (Code.quiet_builtin _ F.quiet) (check_new_kw F hT hC ?_)
  refine new_kw F hT hC ?_ hrest
  show wpAny _ _ _ _ _ _
  have k : ∀ b o, h.get? b = some o → ((h.push (W.kdv_tup rest)).push (excO C h.objs.size)).get? b = some o := fun b o e => Heap.get?_push_of_some _ (Heap.get?_push_of_some _ e)
  have hC₁ := k _ _ hC
  have hget : ((h.push (W.kdv_tup rest)).push (excO C h.objs.size)).get? (h.objs.size + 1) = some (excO C h.objs.size) := by heap_get
  have hcC : (Value.ref C :: bm).contains (.ref C) = true := by simp
  have i1 := hi.keeps k
  have b1 := (hb (.ref (h.objs.size + 1))).keeps k
  unfold isInstance
  repeat (first | with_reducible refine wpAny_loadPart_at hget ?_ | (with_reducible refine wpAny_isSubtype_exc hC₁ ?_; rw [hcC]) | wp_step)
  show wpAny _ _ (typeLookup (.ref C) _) _ _ _
  refine i1.at ?_
  refine wpAny_holding (wpAny_bind (b1.at ?_))
  refine wpAny_bind (wpAny_call (codeAny_mono hq fun r s' z => ?_))
  rcases r with e | (v | _ | _ | _) <;> first | exact z | exact z.elim | skip
  obtain ⟨rfl, z⟩ := z
  first
    | exact wpAny_pure (wpAny_pure z)
    | (wp_walk; exact z)
/-- a call of the class with keywords, too -/
theorem call_kw (F : ExcBaseFacts B newId initId bmB) (hT : ∀ X : String, bm.contains (.type X) = bmB.contains (.type X)) {rest : List Value} {kw : List (Str × Value)} {fI : Addr}
    (hC : h.get? C = some (excClassObj nm q C N bs bm hdct sn sub ab col dd k0 k1 k2 k3 k5 newId))
    (hi : W.Looks (model prog w) h (typeLookup (.ref C) "__init__") (some (.ref fI))) (hb : ∀ self, W.Looks (model prog w) h (bindSpecial (.ref fI) self) (.ref fI, [self])) (hrest : rest.length ≤ sizeLine)
    (hq : codeAny (model prog w) (A.under (.builtin "type.__call__" ⟨.ref C :: rest, kw⟩)) (.call (.ref fI) ⟨.ref (h.objs.size + 1) :: rest, kw⟩) (W.InitBack (h.objs.size + 1) R)
      ⟨(h.push (W.kdv_tup rest)).push (excO C h.objs.size), g, d, t, os⟩) :
    codeAny (model prog w) A (.call (.ref C) ⟨rest, kw⟩) R ⟨h, g, d, t, os⟩ := by
  have f1 := tc_lookup
  have f2 := tc_bind (.ref C)
  have hTy : (⟨h, g, d, t, os⟩ : Shared).TypeIs (.ref C) "type" := ⟨_, hC, rfl⟩
  refine codeAny_of_tree ?_
  show wpAny _ _ (callAny (.ref C) _) _ _ _
  repeat (any_goals (first | assumption | with_reducible refine wpAny_loadPart_at hC ?_ | wp_step))
  refine ⟨rfl, ?_⟩
  refine codeAny_call_builtin_at (Code.quiet_builtin _ (by decide +kernel)) entry_typeCall (wpAny_check_type_call_sub hC (type_call_kw F hT hC hi hb hrest ?_))
  refine codeAny_mono hq fun r s' z => ?_
  rcases r with e | (v | _ | _ | _) <;> exact z
end
end SX

namespace SX
open PySem PySem.Spec PySem.W PySem.Calls PyProof.Rows L2 SF
/-- what the written part says of an own class of exceptions -/
structure ExK (K : Frag) (C : Addr) : Prop where
  b : ∃ (B newId initId : String) (bmB : List Value), ExcBaseFacts B newId initId bmB ∧ StoreFacts B bmB "object.__setattr__" "object" ∧ excInitIn K C bmB newId = true ∧ excOver K C bmB = true
  hd : hasDictIn K C = true
  sa : findIn K (.ref C) "__setattr__" = some (some (.builtin "object.__setattr__"))
  kC : keepIn K (.ref C) = true
section
variable {X : Cx} {pins : List (Addr × Obj)} {σ : L2.St} {H : Hp} {s : Shared} {a C dx : Addr} {f : Str} {y : V} {u : Value} {fs : List (Str × V)} {Q : Unit → Shared → Prop} {E : Value → Shared → Prop} {A : Around}
/-- self.f = y, the first one: the object's own dict is made -/
theorem set_new (T : ExK X.K C) (I : Inv X pins σ H s) (e : H a = some (exo a C none)) (hno : NoAttr X.K C f) (ry : RelV y u)
    (h : ∀ dx s', H dx = none → dx ≠ a → Inv X pins σ (upd (upd H dx (exd dx [(f, y)])) a (exo a C (some dx))) s' → Q () s') : wpAny (model X.prog X.w) A (setAttr (.ref a) f u) Q E s := by
  obtain ⟨B, newId, initId, bmB, _, SF, _, ho⟩ := T.b
  obtain ⟨t1, hx⟩ := exo_at I.hok e
  obtain ⟨cd, hc, hd'⟩ := any_some T.hd
  obtain ⟨hp, g, d, t, os⟩ := s
  refine set_plain I.kIn (ox := { cls := .ref C, dict := none, data := .fields #[.ref t1, .none, .none, .none, .bool false, .none] }) (od := none) ⟨hx, rfl, rfl, trivial⟩ T.sa ?_
  refine osa_openX (s := ⟨hp, g, d, t + 1, os⟩) (od := none) SF I.kIn ⟨hx, rfl, rfl, trivial⟩ ho hno.taker fun b => ?_
  have hxs : a ≠ hp.objs.size := Nat.ne_of_lt (Heap.lt_size hx)
  have hnd : H hp.objs.size = none := I.hok.fresh (Nat.le_refl _)
  refine wpAny_bind (wpAny_pure (wpAny_bind (instanceDict_exc (s := ⟨hp, g, d, t + 1, os⟩) hx (looks_clsIn I.kIn hc) hd' ?_)))
  show wpAny _ _ (Builtin.ObjectAttr.storeInDict hp.objs.size (.str f t) f u) _ _ _
  refine HandSPX.store_in_new ⟨_, #[], _, (Heap.get?_update_ne _ _ _ _ hxs.symm).trans (Heap.get?_push_at rfl rfl), rfl, fun e he => absurd he (by simp), fun _ => rfl⟩ fun h' tk' hn' hs => ?_
  have hx1 : (hp.push { cls := .type "dict", data := .dict #[] }).get? a = some { cls := .ref C, data := .fields #[.ref t1, .none, .none, .none, .bool false, .none] } := Heap.get?_push_of_some _ hx
  have k : ∀ b o, b ≠ a → hp.get? b = some o → h'.get? b = some o := fun b o hb q => (hs.2 b (Nat.ne_of_lt (Heap.lt_size q))).trans ((Heap.get?_update_ne _ _ _ _ hb).trans (Heap.get?_push_of_some _ q))
  have hx2 : h'.get? a = some { cls := .ref C, dict := some hp.objs.size, data := .fields #[.ref t1, .none, .none, .none, .bool false, .none] } := (hs.2 a hxs).trans (Heap.get?_update_self _ hx1 rfl)
  have nd : ∀ {b : Addr} {o : Obj}, hp.get? b = some o → b ≠ hp.objs.size := fun {b o} q => Nat.ne_of_lt (Heap.lt_size q)
  have na : ∀ {b : Addr}, H b = none → b ≠ a := fun {b} n z => by
    rw [z, e] at n
    cases n
  have U : Un X.fs [] H (upd (upd H hp.objs.size (exd hp.objs.size [(f, y)])) a (exo a C (some hp.objs.size))) hp h' := {
    keep := fun b o q n _ _ => k b o (na n) q
    slot := fun b o q n _ _ => ⟨o.slots, k b o (na n) q⟩
    free := fun b o q n _ => by rw [upd_ne (na n), upd_ne (nd q)]; exact n
    there := fun b o q _ => by
      by_cases hb : b = a
      · exact ⟨_, by rw [hb]; exact hx2⟩
      · exact ⟨o, k b o hb q⟩
    tups := fun b xs q => by rw [upd_ne (at_ne e q exo_tup), upd_ne (ne_of_none q hnd)]; exact q
    frzs := fun b o v q => by rw [upd_ne (at_ne e q exo_frz), upd_ne (ne_of_none q hnd)]; exact q
    tbls := fun b ps q => ⟨#[], by rw [upd_ne (at_ne e q exo_tbl), upd_ne (ne_of_none q hnd), q]; simp⟩ }
  refine h hp.objs.size _ hnd hxs.symm (I.un (t' := tk') U fun b o q => ?_)
  by_cases hb : b = a
  · subst hb
    rw [upd_same] at q
    cases q
    exact exo_ok hx2
  · rw [upd_ne hb] at q
    by_cases hd : b = hp.objs.size
    · subst hd
      rw [upd_same] at q
      cases q
      exact exd_ok hn' (relO_put (fs := []) ry fun g => True.intro)
    · rw [upd_ne hd] at q
      exact (I.hok b o q).stay (fun c v hc z => k c v (by
          rcases hc with hc | hc
          · rw [hc]
            exact hb
          · exact at_ne e hc exo_own) z)
        (fun c hc => by rw [upd_ne (at_ne e hc exo_own), upd_ne (ne_of_none hc hnd)]; exact hc) (fun c xs hc => by rw [upd_ne (at_ne e hc exo_tup), upd_ne (ne_of_none hc hnd)]; exact hc)
/-- self.f = y, a further one -/
theorem set_more (T : ExK X.K C) (I : Inv X pins σ H s) (e : H a = some (exo a C (some dx))) (ed : H dx = some (exd dx fs)) (hl : fs.length ≤ 900) (hno : NoAttr X.K C f) (ry : RelV y u)
    (h : ∀ s', Inv X pins σ (upd H dx (exd dx ((f, y) :: fs))) s' → Q () s') : wpAny (model X.prog X.w) A (setAttr (.ref a) f u) Q E s := by
  obtain ⟨B, newId, initId, bmB, _, SF, _, ho⟩ := T.b
  obtain ⟨t1, hx⟩ := exo_at I.hok e
  obtain ⟨mA, hns, rel⟩ := exd_at I.hok ed
  obtain ⟨cd, hc, hd'⟩ := any_some T.hd
  have hw := within_of rel
  obtain ⟨hp, g, d, t, os⟩ := s
  obtain ⟨oD, _, _, hoD, _, _⟩ := hns.count hw
  refine set_plain I.kIn (ox := { cls := .ref C, dict := some dx, data := .fields #[.ref t1, .none, .none, .none, .bool false, .none] }) (od := some oD) ⟨hx, rfl, rfl, hoD⟩ T.sa ?_
  refine osa_openX (s := ⟨hp, g, d, t + 1, os⟩) (od := some oD) SF I.kIn ⟨hx, rfl, rfl, hoD⟩ ho hno.taker fun b => ?_
  refine wpAny_bind (wpAny_pure (wpAny_bind (wpAny_bind (wpAny_loadPart hx (wpAny_bind ((looks_clsIn I.kIn hc).at ?_))))))
  rw [hd']
  refine wpAny_pure (a := some dx) ?_
  show wpAny _ _ (Builtin.ObjectAttr.storeInDict dx (.str f t) f u) _ _ _
  refine PySem.OEX.store_in_old hns hw (by rw [List.length_map]; omega) fun h' tk' hn hs => ?_
  have hd : ∃ o, h'.get? dx = some o := by
    obtain ⟨o, _, _, e', _⟩ := hn
    exact ⟨o, e'⟩
  exact h _ (I.write (t' := tk') (x := dx) (e := dx) (o := exd dx ((f, y) :: fs)) (by rw [ed]; exact True.intro) (.inl rfl) (fun b o hb q => (hs.2 b hb).trans q) hd (exd_ok hn (relO_put ry rel)))
end
/-- self.f = e of such an exception -/
def tSetX (K : PySem.W.Frag) (f : Str) (to te : TE) : TS := fun D σ H => te σ H fun y H1 => to σ H1 fun x H2 => ∃ a C : Addr, x = .ref a ∧ ExK K C ∧ NoAttr K C f ∧
  ((H2 a = some (exo a C none) ∧ ∀ dx, H2 dx = none → dx ≠ a → D.nx σ (upd (upd H2 dx (exd dx [(f, y)])) a (exo a C (some dx)))) ∨
    ∃ (dx : Addr) (fs : List (Str × V)), H2 a = some (exo a C (some dx)) ∧ H2 dx = some (exd dx fs) ∧ fs.length ≤ 900 ∧ D.nx σ (upd H2 dx (exd dx ((f, y) :: fs))))
/-- C(e, ..), the instance a value -/
def tMkX (C : Addr) (n m : Nat) (sp : Sp) (gV : List V → List V → List V) (t tk : TA) : TE := fun σ H Q => t σ H fun vs H1 => tk σ H1 fun zs H2 => vs.length = n ∧ zs.length = m ∧ n ≤ 1000 ∧
  ∀ a, H2 a = none → sp (gV (.ref a :: vs) zs) (upd H2 a (exo a C none)) (fun v H3 => v = .non ∧ Q (.ref a) H3) (fun _ _ _ => False)
section
variable {X : Cx} {CX : CXT} {k n : Nat} {fI C : Addr} {fd : FuncData} {ps ks : List Str} {sp : Sp} {x f : Str} {p p' pos : Pos} {e o : Expr} {es : List Expr} {kws : List Keyword} {to te : TE} {t tk : TA} {g : List Value → List Value → List Value} {gV : List V → List V → List V}
theorem ps_setX (ho : PE X o to) (he : PE X e te) (hs : swapsWith e (some (.Attribute o f p')) pos.line X.env = pure false := by rfl) : PS X (.Assign [.Attribute o f p'] e pos) (tSetX X.K f to te) := by
  refine ⟨fun pins s σ H D I h => ?_⟩
  refine plainObj_wpAny_Assign_Attribute (thn (he.run pins s σ H _ I h) fun v s1 ⟨y, H1, I1, r1, q1⟩ => thn (ho.run pins s1 σ H1 _ I1 q1) fun u s2 ⟨x, H2, I2, r2, a, C, ex, T, hno, q⟩ => ?_) hs
  subst ex
  obtain rfl : u = Value.ref a := r2
  rcases q with ⟨ea, q⟩ | ⟨dx, fs, ea, ed, hl, q⟩
  · exact set_new T I2 ea hno r1 fun dx s' n ne J => ⟨σ, _, J, q dx n ne⟩
  · exact set_more T I2 ea ed hl hno r1 fun s' J => ⟨σ, _, J, q⟩
theorem run_mkX {pins : List (Addr × Obj)} {σ : L2.St} {H : Hp} {s : Shared} {Q : VK} {us ws : List Value} {vs zs : List V} (T : ExK X.K C) (iC : PySem.W.findIn X.K (.ref C) "__init__" = some (some (.ref fI))) (tI : PySem.W.typeIn X.K (.ref fI) = some (.type "function"))
    (F : FnOk X.prog X.w X.K X.mg X.base CX k fI fd ps sp) (hr : Room (k + 1) X.A) (hb : KBn X.K fd ps (n + 1) ks g gV) (hx : Passes CX X (fun _ _ _ => False)) (I : Inv X pins σ H s) (r : Vals vs us) (rz : Vals zs ws) (l1 : vs.length = n) (l2 : zs.length = ks.length) (l3 : n ≤ 1000)
    (h : ∀ a, H a = none → sp (gV (.ref a :: vs) zs) (upd H a (exo a C none)) (fun v H3 => v = .non ∧ Q (.ref a) H3) (fun _ _ _ => False)) :
    wpAny (model X.prog X.w) X.A (call (.ref C) us (ks.zip ws)) (EP X pins σ Q) X.xe s := by
  obtain ⟨B, newId, initId, bmB, FB, _, hq, _⟩ := T.b
  obtain ⟨hp, gg, dr, tk, os⟩ := s
  obtain ⟨nm, N', qn, bs, bm, hdct, sn, sub, ab, col, dd, k0, k1, k2, k3, k5, hC, hT⟩ := excInit_of I.kIn hq
  have hsz : hp.objs.size ≤ hp.objs.size + 1 := Nat.le_succ _
  have hn : H (hp.objs.size + 1) = none := I.hok.fresh hsz
  have hq := h (hp.objs.size + 1) hn
  have kk : ∀ b o, hp.get? b = some o → ((hp.push (PySem.W.kdv_tup us)).push (PySem.HandSPX.excO C hp.objs.size)).get? b = some o := fun b o e => Heap.get?_push_of_some _ (Heap.get?_push_of_some _ e)
  have hget : ((hp.push (PySem.W.kdv_tup us)).push (PySem.HandSPX.excO C hp.objs.size)).get? (hp.objs.size + 1) = some (PySem.HandSPX.excO C hp.objs.size) := by heap_get
  have I2 : Inv X pins σ (upd H (hp.objs.size + 1) (exo (hp.objs.size + 1) C none)) ⟨(hp.push (PySem.W.kdv_tup us)).push (PySem.HandSPX.excO C hp.objs.size), gg, dr, tk, os⟩ :=
    I.laid (t' := tk) (a := hp.objs.size + 1) (o := exo (hp.objs.size + 1) C none) (h' := (hp.push (PySem.W.kdv_tup us)).push (PySem.HandSPX.excO C hp.objs.size)) kk hsz (exo_ok hget)
  have r1 : Vals (V.ref (hp.objs.size + 1) :: vs) (Value.ref (hp.objs.size + 1) :: us) := .cons rfl r
  have r2 := hb.rel r1 rz
  have n1 : (Value.ref (hp.objs.size + 1) :: us).length = n + 1 := by
    rw [List.length_cons, ← r.length, l1]
  have hus : us.length ≤ sizeLine := by
    rw [← r.length, sizeLine_eq]
    omega
  refine wpAny_call (call_kw FB hT hC (PySem.W.looks_findIn I.kIn iC) (fun self => PySem.W.bind_fn I.kIn self tI) hus
    (codeAny_mono (F.run _ X.stack _ _ ⟨Value.ref (hp.objs.size + 1) :: us, ks.zip ws⟩ (g (Value.ref (hp.objs.size + 1) :: us) ws) _ _ (fun _ _ _ => False) (hr.make C us (ks.zip ws)) (I2.env0.make C us (ks.zip ws))
      (hb.to _ (Value.ref (hp.objs.size + 1) :: us) ws I2.kIn n1 (rz.length.symm.trans l2)) r2 hq) fun r s' hq' => ?_))
  cases r with
  | error er => exact hx pins σ _ _ er s' I2 hq'
  | ok fl =>
    cases fl with
    | ret u =>
      obtain ⟨v, H', I3, rv, ev, q3⟩ := I2.after hq'
      subst ev
      exact ⟨rv, ⟨V.ref (hp.objs.size + 1), H', I3, rfl, q3⟩⟩
    | next => exact False.elim hq'
    | brk => exact False.elim hq'
    | cont => exact False.elim hq'
/-- a def without defaults, called by position alone -/
theorem kbn_of (hb : Binds X.K fd ps []) (hl : ps.length = n) : KBn X.K fd ps n [] (fun us _ => us) (fun vs _ => vs) :=
  ⟨fun s us ws KX h1 h2 => by
    have e : ws = [] := List.length_eq_zero_iff.mp h2
    subst e
    have z := hb s us KX (by rw [List.append_nil, h1, hl])
    rw [List.append_nil] at z
    exact z, fun r _ => r⟩
/-- C(e, ..) -/
theorem pe_mkX (T : ExK X.K C) (iC : PySem.W.findIn X.K (.ref C) "__init__" = some (some (.ref fI))) (tI : PySem.W.typeIn X.K (.ref fI) = some (.type "function"))
    (F : FnOk X.prog X.w X.K X.mg X.base CX k fI fd ps sp) (hr : Room (k + 1) X.A) (hg : Gl X x) (hm : X.mg x = some (.ref C)) (hb : Binds X.K fd ps []) (hl : ps.length = n + 1) (hx : Passes CX X (fun _ _ _ => False))
    (ha : PA X (e :: es) t) (hdb : (x == ("__debug__" : Str)) = false := by decide) (he : starEach (e :: es) X.env = (false, eval e X.env) :: starEach es X.env := by rfl) (hpl : (backTo pos (starEach es X.env)).any (·.1) = false := by rfl) :
    PE X (.Call (.Name x p) (e :: es) [] pos) (tMkX C n 0 sp (fun vs _ => vs) t tNil) := by
  refine ⟨fun pins s σ H Q I h => ?_⟩
  refine wpAny_Call_Name_kw (ld_glob I hg hm ?_ hdb)
  refine PySem.W.callWith_K (h₀ := X.base) I.ok.mod.kin T.kC (thn (ha.run pos pins s σ H _ I h) fun us s1 ⟨vs, H1, I1, r, q⟩ => ⟨I1.kIn, ?_⟩) he hpl
  obtain ⟨q1, q2, q3, q4⟩ := q
  exact run_mkX (ks := []) (ws := []) T iC tI F hr (kbn_of hb hl) hx I1 r .nil q1 rfl q3 q4
/-- C(f = e, ..) -/
theorem pe_mkXK (T : ExK X.K C) (iC : PySem.W.findIn X.K (.ref C) "__init__" = some (some (.ref fI))) (tI : PySem.W.typeIn X.K (.ref fI) = some (.type "function"))
    (F : FnOk X.prog X.w X.K X.mg X.base CX k fI fd ps sp) (hr : Room (k + 1) X.A) (hg : Gl X x) (hm : X.mg x = some (.ref C)) (hb : KBn X.K fd ps 1 ks g gV) (hx : Passes CX X (fun _ _ _ => False)) (hkw : PK X kws tk)
    (hall : (backToKw pos (keywordEach kws X.env)).all (·.1.isSome) = true := by rfl) (hks : (backToKw pos (keywordEach kws X.env)).filterMap (·.1) = ks := by rfl) (hdb : (x == ("__debug__" : Str)) = false := by decide)
    (hpl : ((backTo pos (starEach [] X.env)).any (·.1) || (backToKw pos (keywordEach kws X.env)).any (·.1.isNone)) = false := by rfl) :
    PE X (.Call (.Name x p) [] kws pos) (tMkX C 0 ks.length sp gV tNil tk) := by
  refine ⟨fun pins s σ H Q I h => ?_⟩
  refine wpAny_Call_Name_kw (ld_glob I hg hm ?_ hdb)
  refine PySem.W.callWith_KW0 (h₀ := X.base) I.ok.mod.kin T.kC hall ?_ hpl
  refine thn (hkw.run pos pins s σ H _ I h) fun ws s2 ⟨zs, H2, I2, rz, l1, l2, l3, q2⟩ => ⟨I2.kIn, ?_⟩
  rw [hks]
  exact run_mkX (us := []) (vs := []) T iC tI F hr hb hx I2 .nil rz rfl l2 (by decide) q2
/-- C(), a class without own __init__ -/
theorem pe_mkX0 {bmB : List Value} {B newId initId : String} (F : ExcBaseFacts B newId initId bmB) (q : PySem.W.excIn X.K C bmB newId = true) (hm : X.mg x = some (.ref C)) (kC : PySem.W.keepIn X.K (.ref C) = true) (hg : Gl X x) (hdb : (x == ("__debug__" : Str)) = false := by decide) :
    PE X (.Call (.Name x p) [] [] pos) (fun σ H Q => ∀ a, H a = none → Q (.ref a) (upd H a (ExO (.ref C) a))) := by
  refine ⟨fun pins s σ H Q I h => ?_⟩
  refine wpAny_Call_Name_kw (ld_glob I hg hm ?_ hdb)
  refine PySem.W.callWith_K0 I.kIn kC ?_
  show wpAny _ _ (call (.ref C) []) _ _ _
  obtain ⟨bm, N, nm, qn, bs, hdct, sn, sub, ab, col, dd, k0, k1, k2, k3, k5, mN, hC, hN, hni, T⟩ := exc_obj I.kIn q
  refine wpAny_call_exc_subT F T hC hN hni (fun h' a hm => ?_) (by show 0 ≤ sizeLine; exact Nat.zero_le _)
  have hn : H a = none := I.hok.gone hm.new
  obtain ⟨t, ht, _, _⟩ := hm.there
  exact ⟨.ref a, upd H a (ExO (.ref C) a), I.laidN hm.keeps hm.new hn (exO_ok ht ⟨rfl, rfl⟩ rfl rfl rfl (show 4 < 6 by decide)), rfl, h a hn⟩
end
end SX

/-! list.count of flat things; repr of things of any depth. -/
namespace SX
open PySem PySem.Spec PyProof.Rows PyProof.V L2 SF
section
variable {X : Cx}
theorem count_eqU {y : V} : ∀ {xs : List V} {us : List Value}, Vals xs us → xs.all flatV = true → us.countP (eqU y) = xs.countP (fun z => eqV z y)
  | _, _, .nil, _ => rfl
  | x :: xs, u :: us, .cons r t, f => by
    rw [List.all_cons, Bool.and_eq_true] at f
    rw [List.countP_cons, List.countP_cons, count_eqU t f.2, eqU_of r f.1]
/-- xs.count(y), flat -/
def rCountF (K : PySem.W.Frag) : V → List V → Hp → VK → Prop := fun x xs H Q => ∃ (a : Addr) (ys : List V) (y : V), x = .ref a ∧ xs = [y] ∧ SqL K H a ys ∧ flatV y = true ∧ ys.all flatV = true ∧ Q (.int (ys.countP (fun z => eqV z y) : Nat)) H
theorem mt_countF : MtR X "list.count" (rCountF X.K) := by
  intro pins s σ H x xs v us Q I rx rxs h
  obtain ⟨a, ys, y, rfl, rfl, hs, fy, fys, q⟩ := h
  cases rx
  obtain ⟨u, rfl, ru⟩ := rxs.one
  obtain ⟨its, rv, ⟨⟨cls, dd, data, sl⟩, n, ho, hc, hdn, hd⟩, hlen⟩ := I.list hs
  simp only at hc hd
  subst hc hd
  refine call_meets PySem.F.slot_list_count ⟨_, ho, rfl⟩ PySem.F.entry_list_count (PySem.F.args_list_count_2 _ _)
    (SeqAt.list_countAt a its.toArray n dd sl u (eqU y)) ⟨ho, fun u' hu' => mem_eqAt ru fy rv fys u' (by simpa using hu'), ?_⟩
  have ec : its.toArray.toList.countP (eqU y) = ys.countP (fun z => eqV z y) := count_eqU rv fys
  refine ⟨.int (ys.countP (fun z => eqV z y) : Nat), H, I.tok _, ⟨s.toks, ?_⟩, q⟩
  show Value.int ((its.toArray.toList.countP (eqU y) : Nat) : Int) s.toks = _
  rw [ec]
/-- a list's display; its place is told not to be the table of modules -/
def tLstS (t : TA) : TE := fun σ H Q => t σ H fun xs H1 => xs.length ≤ sizeLine ∧ ∀ p, H1 p = none → p ≠ sysModules → Q (.ref p) (upd H1 p (.lst xs))
theorem pe_lstS {es : List Expr} {pos : Pos} {t : TA} (h : PA X es t) : PE X (.List es pos) (tLstS t) := by
  refine ⟨fun pins s σ H Q I hq => ?_⟩
  refine wpAny_List_spliced (thn (h.run pos pins s σ H _ I hq) fun us s1 ⟨xs, H1, I1, r, z, q⟩ => ⟨by rw [← r.length]; exact z, ?_⟩)
  have hf : H1 s1.heap.objs.size = none := I1.hok.fresh (Nat.le_refl _)
  refine ⟨.ref s1.heap.objs.size, upd H1 s1.heap.objs.size (.lst xs), I1.laid (t' := s1.toks) (fun b u e => Heap.get?_push_of_some _ e) (Nat.le_refl _) ?_, rfl, q _ hf (Nat.ne_of_gt I1.big)⟩
  exact ⟨z, us, 0, r, Heap.get?_push_size _ rfl⟩
end
/-! ### repr of things of any depth -/
def keyD : Key → PyData
  | .inl i => .int i
  | .inr x => .str x
mutual
/-- what stands there, lists and dicts apart from the table of modules -/
inductive Sd (H : Hp) : V → PyData → Prop
  | non : Sd H .non .none
  | bl (b : Bool) : Sd H (.bl b) (.bool b)
  | int (i : Int) : Sd H (.int i) (.int i)
  | str (x : Str) : Sd H (.str x) (.str x)
  | lst {a : Addr} {xs : List V} {ds : List PyData} : a ≠ sysModules → H a = some (.lst xs) → SdAll H xs ds → Sd H (.ref a) (.list ds)
  | tup {a : Addr} {xs : List V} {ds : List PyData} : H a = some (.tup xs) → SdAll H xs ds → Sd H (.ref a) (.tuple ds)
  | dct {a : Addr} {kvs : List (Key × V)} {D : List (PyData × PyData)} : H a = some (.dK kvs) → SdP H kvs D → Sd H (.ref a) (.dict D)
inductive SdAll (H : Hp) : List V → List PyData → Prop
  | nil : SdAll H [] []
  | cons {v : V} {vs : List V} {d : PyData} {ds : List PyData} : Sd H v d → SdAll H vs ds → SdAll H (v :: vs) (d :: ds)
inductive SdP (H : Hp) : List (Key × V) → List (PyData × PyData) → Prop
  | nil : SdP H [] []
  | cons {k : Key} {v : V} {kvs : List (Key × V)} {d : PyData} {D : List (PyData × PyData)} : Sd H v d → SdP H kvs D → SdP H ((k, v) :: kvs) ((keyD k, d) :: D)
end
mutual
theorem Sd.same {H H' : Hp} (s : ∀ b o, H b = some o → H' b = some o) : ∀ {v : V} {d : PyData}, Sd H v d → Sd H' v d
  | _, _, .non => .non
  | _, _, .bl b => .bl b
  | _, _, .int i => .int i
  | _, _, .str x => .str x
  | _, _, .lst n e h => .lst n (s _ _ e) (SdAll.same s h)
  | _, _, .tup e h => .tup (s _ _ e) (SdAll.same s h)
  | _, _, .dct e h => .dct (s _ _ e) (SdP.same s h)
theorem SdAll.same {H H' : Hp} (s : ∀ b o, H b = some o → H' b = some o) : ∀ {vs : List V} {ds : List PyData}, SdAll H vs ds → SdAll H' vs ds
  | _, _, .nil => .nil
  | _, _, .cons a b => .cons (Sd.same s a) (SdAll.same s b)
theorem SdP.same {H H' : Hp} (s : ∀ b o, H b = some o → H' b = some o) : ∀ {vs : List (Key × V)} {ds : List (PyData × PyData)}, SdP H vs ds → SdP H' vs ds
  | _, _, .nil => .nil
  | _, _, .cons a b => .cons (Sd.same s a) (SdP.same s b)
end
theorem keyReads {P : Program} {w : World} {h : Heap} (k : Key) (key : Value) (e : (mixKind P w).is k key = true) : Reads h key (keyD k) [] := by
  rcases keyIs_shape (show keyIs k key = true from e) with ⟨i, t, rfl, rfl⟩ | ⟨x, t, rfl, rfl⟩
  · exact .int i t
  · exact .str x t
section
variable {P : Program} {w : World} {H : Hp} {h : Heap}
mutual
theorem Sd.reads (ok : HOk P w H h) : ∀ {v : V} {d : PyData} {u : Value}, Sd H v d → RelV v u → ∃ as, Reads h u d as ∧ sysModules ∉ as
  | _, _, _, .non, r => by cases (show _ = Value.none from r); exact ⟨_, .none, by simp⟩
  | _, _, _, .bl b, r => by cases (show _ = Value.bool b from r); exact ⟨_, .bool b, by simp⟩
  | _, _, u, .int i, r => by obtain ⟨t, rfl⟩ := (show ∃ t, u = Value.int i t from r); exact ⟨_, .int i t, by simp⟩
  | _, _, u, .str x, r => by obtain ⟨t, rfl⟩ := (show ∃ t, u = Value.str x t from r); exact ⟨_, .str x t, by simp⟩
  | _, _, u, .lst (a := a) (xs := xs) n e q, r => by
    cases (show u = Value.ref a from r)
    obtain ⟨_, its, m, rv, e1⟩ := (show ObjOk P w H h a (.lst xs) from ok a _ e)
    obtain ⟨as, b, z⟩ := SdAll.reads ok q rv
    exact ⟨_, .list e1 rfl rfl (by simpa using b), by simp [Ne.symm n, z]⟩
  | _, _, u, .tup (a := a) (xs := xs) e q, r => by
    cases (show u = Value.ref a from r)
    obtain ⟨_, its, rv, o, e1, e2, m, e3⟩ := (show ObjOk P w H h a (.tup xs) from ok a _ e)
    obtain ⟨as, b, z⟩ := SdAll.reads ok q rv
    exact ⟨_, .tuple e1 e2 e3 (by simpa using b), z⟩
  | _, _, u, .dct (a := a) (kvs := kvs) e q, r => by
    cases (show u = Value.ref a from r)
    obtain ⟨_, hm, vs, rv, e1⟩ := (show ObjOk P w H h a (.dK kvs) from ok a _ e)
    obtain ⟨bs, b, z⟩ := SdP.reads ok q rv
    have na : sysModules ≠ a := fun y => by rw [y] at hm; simp at hm
    exact ⟨_, reads_dictOf (keyReads (P := P) (w := w)) e1 b, by simp [na, z]⟩
theorem SdAll.reads (ok : HOk P w H h) : ∀ {vs : List V} {ds : List PyData} {us : List Value}, SdAll H vs ds → Vals vs us → ∃ as, ReadsAll h us ds as ∧ sysModules ∉ as
  | _, _, _, .nil, .nil => ⟨_, .nil, by simp⟩
  | _, _, _, .cons a b, .cons r t => by
    obtain ⟨as, h1, z1⟩ := Sd.reads ok a r
    obtain ⟨bs, h2, z2⟩ := SdAll.reads ok b t
    exact ⟨_, .cons h1 h2, by simp [z1, z2]⟩
theorem SdP.reads (ok : HOk P w H h) : ∀ {kvs : List (Key × V)} {D : List (PyData × PyData)} {vs : List (Key × Value)}, SdP H kvs D → KV kvs vs → ∃ bs, PairsRead h keyD vs D bs ∧ sysModules ∉ bs
  | _, _, _, .nil, .nil => ⟨_, .nil, by simp⟩
  | (k, v) :: _, _, (k', u) :: _, .cons a b, .cons r t => by
    obtain ⟨rk, rv⟩ := r
    dsimp only at rk rv
    subst rk
    obtain ⟨as, h1, z1⟩ := Sd.reads ok a rv
    obtain ⟨bs, h2, z2⟩ := SdP.reads ok b t
    exact ⟨_, .cons h1 h2, by simp [z1, z2]⟩
end
end
section
variable {X : Cx}
/-- repr of a list, a tuple or a dict -/
def rReprS : List V → Hp → VK → Prop := fun xs H Q => ∃ (a : Addr) (d : PyData), xs = [V.ref a] ∧ Sd H (.ref a) d ∧ d.showable = true ∧ d.depth ≤ 8 ∧ d.shown.length ≤ sizeLine ∧ Q (.str d.shown) H
theorem call_reprS {k : Nat} (hg : X.A.guards = some []) (hr : Room k X.A) : CallR X (.builtin "repr") rReprS := by
  intro pins s σ H xs us Q I r h
  obtain ⟨a, d, rfl, hd, h1, h2, h3, q⟩ := h
  obtain ⟨u, rfl, ru⟩ := r.one
  cases (show u = Value.ref a from ru)
  obtain ⟨as, R, hm⟩ := Sd.reads I.hok hd (u := .ref a) rfl
  refine repr_of_reads' R h1 (fun _ => hm) hg (by have := hr.units; omega) (fun _ _ e => e) (fun h' u tk hk => ?_) h3
  exact ⟨.str _, H, I.kept hk, ⟨u, rfl⟩, q⟩
end
end SX

/-! The end of a law row whose def is only known to keep its promise where no guard runs. -/
namespace SF
open PySem PySem.Spec PyProof.Rows L2
/-- the script's object as the abstract heap bears it: frozen, unless it is one of the module's own -/
def scriptH (K : PySem.W.Frag) (a : Addr) (vs : List Value) (ns : List Int) : Hp := fun b =>
  if b = a ∧ K.lookup a = none then some (.frz { cls := .type "list", data := .seq vs.toArray } (.lst (ns.map V.int))) else none
section
variable {P : Program} {w : World} {K : PySem.W.Frag} {a : Addr} {vs : List Value} {ns : List Int} {s₁ : Shared}
theorem scriptH_some {b : Addr} {u : HO} (e : scriptH K a vs ns b = some u) : b = a ∧ K.lookup a = none ∧ u = .frz { cls := .type "list", data := .seq vs.toArray } (.lst (ns.map V.int)) := by
  by_cases h : b = a ∧ K.lookup a = none
  · have z : some _ = some u := (if_pos h).symm.trans e
    exact ⟨h.1, h.2, (Option.some.inj z).symm⟩
  · have z : none = some u := (if_neg h).symm.trans e
    cases z
theorem scriptH_seq (KX : K.In s₁.heap) (ha : s₁.heap.get? a = some { cls := .type "list", data := .seq vs.toArray }) (hi : IntsAre vs ns) (hl : ns.length ≤ sizeLine) : SqL K (scriptH K a vs ns) a (ns.map V.int) := by
  cases hk : K.lookup a with
  | none => exact .inl (.inr ⟨_, if_pos ⟨rfl, hk⟩⟩)
  | some o =>
    have z := (KX a o hk).symm.trans ha
    cases z
    have hz : vs.toArray.size ≤ sizeLine := by rw [List.size_toArray, hi.length]; exact hl
    exact .inr ⟨_, vs.toArray, _, hk, rfl, rfl, rfl, hz, by rw [List.toList_toArray]; exact vals_ints hi⟩
theorem scriptH_ok (ha : s₁.heap.get? a = some { cls := .type "list", data := .seq vs.toArray }) (hi : IntsAre vs ns) (hl : ns.length ≤ sizeLine) : HOk P w (scriptH K a vs ns) s₁.heap := fun b u e => by
  obtain ⟨rfl, _, rfl⟩ := scriptH_some e
  exact ⟨ha, by rw [List.length_map]; exact hl, vs, _, vals_ints hi, ha⟩
/-- whatever the written part, a namespace or a dict bears stays in the base -/
theorem scriptH_base {b : Addr} {o : Obj} (e : s₁.heap.get? b = some o) (hn : b = a → K.lookup a ≠ none) : (hidT s₁.heap (scriptH K a vs ns)).get? b = some o := by
  refine hidT_get e ?_
  cases q : scriptH K a vs ns b with
  | none => rfl
  | some u =>
    obtain ⟨z, hk, _⟩ := scriptH_some q
    exact absurd hk (hn z)
theorem scriptH_ns {b : Addr} {m : Str → Option Value} (ha : s₁.heap.get? a = some { cls := .type "list", data := .seq vs.toArray }) (n : s₁.heap.Ns b m) : (hidT s₁.heap (scriptH K a vs ns)).Ns b m := by
  obtain ⟨o, es, ep, e, d, r⟩ := n
  refine ⟨o, es, ep, scriptH_base e (fun z => ?_), d, r⟩
  rw [z, ha] at e
  cases e
  cases d
theorem law_callG {mg mb : Str → Option Value} {k : Nat} {fa : Addr} {fd : FuncData} {x : Str} {sp : Sp}
    (KX : K.In s₁.heap) (hns : s₁.heap.Ns mainGlobals mg) (hb : s₁.heap.Ns builtinsNs mb) (hbb : ∀ x : Str, x ≠ "__name__" → mb x = bootBuiltins x) (hlim : s₁.heap.NoLimit) (hg : s₁.gens = #[])
    (ha : s₁.heap.get? a = some { cls := .type "list", data := .seq vs.toArray }) (hi : IntsAre vs ns) (hl : ns.length ≤ sizeLine) (hr : Room k callerA)
    (F : ∀ base : Heap, K.In base → base.Ns mainGlobals mg → FnG P w K mg base CX0 k fa fd [x] sp) (hbind : ∀ (s : Shared) (u : Value), BindsTo s fd ⟨[u], []⟩ [(x, u)])
    (hsp : ∀ H : Hp, SqL K H a (ns.map V.int) → sp [.ref a] H (fun v _ => v = .bl true) fun _ _ _ => False) :
    codeAny (model P w) callerA (.call (.ref fa) ⟨[.ref a], []⟩) (fun r s' => r = .ok (.ret (.bool true)) ∧ PySem.OldK s₁.heap s'.heap ∧ s'.os = s₁.os ∧ AllBare s'.gens) s₁ := by
  have kb : K.In (hidT s₁.heap (scriptH K a vs ns)) := fun b o e => scriptH_base (KX b o e) fun z n => by
    rw [← z, e] at n
    cases n
  have nb := scriptH_ns (K := K) (ns := ns) ha hns
  have lb : (hidT s₁.heap (scriptH K a vs ns)).NoLimit := by
    obtain ⟨mc, n1, n2⟩ := hlim
    exact ⟨mc, scriptH_ns ha n1, n2⟩
  have okH : HOk P w (scriptH K a vs ns) s₁.heap := scriptH_ok ha hi hl
  have noF : ∀ b, b ∈ frs [] → False := fun b hb => nomatch hb
  have e0 : Env0 P w K mg (hidT s₁.heap (scriptH K a vs ns)) callerA [] s₁ (scriptH K a vs ns) :=
    { frames := rfl, mod := ⟨kb, nb, ⟨mb, scriptH_ns ha hb, hbb⟩, lb⟩, bs := fun b o e => of_hidT e, bsz := Nat.le_of_eq (hidT_size _ _), funs := trivial, frf := fun b z => (noF b z).elim, hok := okH, bare := .of_eq hg }
  have run := (F _ kb nb).run callerA [] s₁ _ ⟨[.ref a], []⟩ [.ref a] [.ref a] _ _ rfl hr e0 (hbind s₁ (.ref a)) (.cons rfl .nil) (hsp _ (scriptH_seq KX ha hi hl))
  refine codeAny_mono run fun r s' q => ?_
  rcases r with e | fl
  · exact False.elim q
  cases fl <;> first | exact False.elim q | skip
  obtain ⟨v, H', os, bare, un, ok', rv, qv⟩ := q
  have ev : v = .bl true := qv
  rw [ev] at rv
  cases rv
  refine ⟨rfl, .of_keep fun b o e => ?_, os, bare⟩
  cases z : scriptH K a vs ns b with
  | none => exact un.keep b o e z (noF b) (by simp)
  | some u =>
    obtain ⟨rfl, _, rfl⟩ := scriptH_some z
    have after := (ok' b _ (un.frzs b _ _ z)).1
    rw [e] at ha
    rw [ha]
    exact after
end
/-- the goal that the head leaves -/
theorem walkG {l : PySem.W.OpenLaw} {n k : Nat} {q : Program} {loose : List Str} {XP : (Str → Option Value) → Heap → Prop} {YP : World → Heap → Prop} {d : DefRec} {K : Params → PySem.W.Frag} {sp : PySem.W.Frag → Sp} {x : Str}
    (hn : l.most = some n) (hn2 : n ≤ sizeLine) (hdf : d.params.defaults = []) (hr : Room k callerA) (hY : ∀ (w : World) (h : Heap), YP w h → (K w.params).In h)
    (F : ∀ (w : World) (mg : Str → Option Value) (fa : Addr) (h : Heap), (K w.params).In h → h.Ns mainGlobals mg → mg d.name = some (.ref fa) →
      ∃ fd : FuncData, (∀ (s : Shared) (u : Value), BindsTo s fd ⟨[u], []⟩ [(x, u)]) ∧ ∀ base : Heap, (K w.params).In base → base.Ns mainGlobals mg → FnG l.prog w (K w.params) mg base CX0 k fa fd [x] (sp (K w.params)))
    (hsp : ∀ (K : PySem.W.Frag) (H : Hp) (a : Addr) (ns : List Int), ns.length ≤ n → SqL K H a (ns.map V.int) → sp K [.ref a] H (fun v _ => v = .bl true) fun _ _ _ => False) :
    PySem.W.WalkO q loose XP YP l.row.toRowW d [] (fun f vs => PySem.call f vs) := by
  refine Att.attach_call hn hdf fun w s₀ s₁ mg mb fa o pm cd doc a vs ns G Y ho hd hcd hmg hobj hints hlen hg => ?_
  obtain ⟨fd, hb, hF⟩ := F w mg fa _ (hY w _ Y) G.T.g hmg
  exact law_callG (hY w _ Y) G.T.g G.T.b G.T.builtins G.T.nolimit hg hobj hints (Nat.le_trans hlen hn2) hr hF hb fun H hS => hsp _ H a ns hlen hS
end SF

/-! The head by one run of the top: facts by names, and one truth value of one's own over the written part. -/
namespace SH
open PySem PySem.Spec PyProof.Rows L2 SF
def obsX (fa : List He.Fa) (fn : List He.DefD) (ex : PySem.W.Frag → Bool) (K : PySem.W.Frag) : He.AlD := (((fa.all fun f => f.ok K) && fn.all fun d => d.ok K) && ex K, fn.map fun d => He.fnW K d.at_)
def SaysX (fa : List He.Fa) (fn : List He.DefD) (ex : PySem.W.Frag → Bool) (K : PySem.W.Frag) : Prop := obsX fa fn ex K = He.valD fn
def obsXG (n : Nat) (fa : List He.Fa) (fn : List He.DefD) (ex : PySem.W.Frag → Bool) (g : Addr → Option Obj) : He.AlD := obsX fa fn ex (He.frG g (He.asD g n))
def hookX (n : Nat) (fa : List He.Fa) (fn : List He.DefD) (ex : PySem.W.Frag → Bool) : PySem.W.Hook where
  α := He.AlD
  obs := fun s => obsXG n fa fn ex s.heap.get?
  val := fun _ => He.valD fn
  says := fun _ h => ∃ K : PySem.W.Frag, K.In h ∧ SaysX fa fn ex K
  of := fun _ _ e => ⟨_, He.frG_in, e⟩
  keeps := fun _ _ _ ⟨K, hK, c⟩ k => ⟨K, PySem.W.Frag.In.keeps hK k, c⟩
section
variable {n : Nat} {fa : List He.Fa} {fn : List He.DefD} {ex : PySem.W.Frag → Bool} {K : PySem.W.Frag}
theorem obsXG_eq {g : Addr → Option Obj} {s : Shared} (h : ∀ a, g a = s.heap.get? a) : obsXG n fa fn ex g = (hookX n fa fn ex).obs s := by
  have e : g = s.heap.get? := funext h
  rw [e] <;> rfl
theorem SaysX.one (c : SaysX fa fn ex K) : ((fa.all fun f => f.ok K) = true ∧ (fn.all fun d => d.ok K) = true) ∧ ex K = true := by
  have z : (((fa.all fun f => f.ok K) && fn.all fun d => d.ok K) && ex K) = true := congrArg (fun z : He.AlD => z.1) c
  obtain ⟨z1, z2⟩ := Bool.and_eq_true_iff.mp z
  exact ⟨Bool.and_eq_true_iff.mp z1, z2⟩
theorem SaysX.fact (c : SaysX fa fn ex K) (i : Nat) {f : He.Fa} (h : fa[i]? = some f := by rfl) : f.ok K = true := List.all_eq_true.mp c.one.1.1 f (List.mem_of_getElem? h)
theorem SaysX.def_ (c : SaysX fa fn ex K) (i : Nat) {d : He.DefD} (h : fn[i]? = some d := by rfl) : ∃ fd, FunD K d.name d.qual d.params d.body d.scope (d.dvs K) (d.kws K) (He.fAd K d.at_) fd := by
  have e : fn.map (fun d => He.fnW K d.at_) = fn.map He.DefD.val := congrArg (fun z : He.AlD => z.2) c
  have e2 : (fn.map fun d => He.fnW K d.at_)[i]? = (fn.map He.DefD.val)[i]? := by rw [e]
  rw [List.getElem?_map, List.getElem?_map, h] at e2
  exact He.DefD.funD (Option.some.inj e2) (List.all_eq_true.mp c.one.1.2 d (List.mem_of_getElem? h))
theorem fun_of {x qual : Str} {st : Stmt} {f : Addr} {fd : FuncData} (F : FunD K x qual (defArgs st) (defBody st) (defScope st) [] [] f fd) : Fun K x qual st f fd := by
  obtain ⟨oc, od, dV, kV, doc, pm, an, cdv, ct, osl, rfl, lk, hcd, hD, hK⟩ := F.ex
  rcases hD with ⟨_, rfl⟩ | ⟨e, _⟩
  · exact ⟨⟨oc, od, kV, doc, pm, an, cdv, ct, osl, rfl, lk, hcd⟩, F.kp⟩
  · exact absurd rfl e
end
/-- a law: F gives the written part, the function object, the promise over every base, where no guard runs -/
theorem walkGE {l : PySem.W.OpenLaw} {n k : Nat} {q : Program} {loose : List Str} {XP : (Str → Option Value) → Heap → Prop} {YP : World → Heap → Prop} {d : DefRec} {x : Str}
    (hn : l.most = some n) (hn2 : n ≤ sizeLine) (hdf : d.params.defaults = []) (hr : Room k callerA)
    (F : ∀ (w : World) (mg : Str → Option Value) (fa : Addr) (h : Heap), YP w h → h.Ns mainGlobals mg → mg d.name = some (.ref fa) →
      ∃ (K : PySem.W.Frag) (fd : FuncData) (sp : Sp), K.In h ∧ (∀ (s : Shared) (u : Value), BindsTo s fd ⟨[u], []⟩ [(x, u)]) ∧
        (∀ (H : Hp) (a : Addr) (ns : List Int), ns.length ≤ n → SqL K H a (ns.map V.int) → sp [.ref a] H (fun v _ => v = .bl true) fun _ _ _ => False) ∧
        ∀ base : Heap, K.In base → base.Ns mainGlobals mg → FnG l.prog w K mg base CX0 k fa fd [x] sp) :
    PySem.W.WalkO q loose XP YP l.row.toRowW d [] (fun f vs => PySem.call f vs) := by
  refine Att.attach_call hn hdf fun w s₀ s₁ mg mb fa o pm cd doc a vs ns G Y ho hd hcd hmg hobj hints hlen hg => ?_
  obtain ⟨K, fd, sp, KX, hb, hsp, hF⟩ := F w mg fa _ Y G.T.g hmg
  exact law_callG KX G.T.g G.T.b G.T.builtins G.T.nolimit hg hobj hints (Nat.le_trans hlen hn2) hr hF hb fun H hS => hsp H a ns hlen hS
end SH

namespace T01
open PySem L2 SF
def top (i : Nat) : Stmt := PySem.Challenge.pw_seriesforms_k01_constants_and_errors.main.body.getD i (.Pass ⟨0, 0, 0, 0⟩)
abbrev sCell : Stmt := top 44
abbrev sSource : Stmt := top 45
abbrev sDraw : Stmt := top 46
/-- the built-in names that the law's helpers call -/
structure Blt (mg : Str → Option Value) : Prop where
  len : mg "len" = none
  int : mg "int" = none
  abs : mg "abs" = none
  dvm : mg "divmod" = none
section
variable {P : Program} {w : World} {K : PySem.W.Frag} {mg : Str → Option Value} {base : Heap}
theorem scCell : FnScope ["_law_cells", "_law_k", "_law_mixed", "_law_cell_here"] ["_law_cells", "_law_k"] (defScope sCell) := ⟨rfl, rfl, rfl, by decide +kernel, rfl, by decide +kernel, by decide +kernel⟩
def spCell (K : PySem.W.Frag) : Sp := fun vs H Q _ => ∃ (a : Addr) (ns : List Int) (k : Int), vs = [.ref a, .int k] ∧ SqL K H a (ns.map V.int) ∧ ns.length ≤ 63 ∧ 0 ≤ k ∧ k ≤ 63 ∧ ∀ z H', Same H H' → Q (.int z) H'
theorem ok_cell {f : Addr} {fd : FuncData} (F : Fun K "_law_cell" "_law_cell" sCell f fd) (T : Blt mg) : FnOk P w K mg base CX0 1 f fd ["_law_cells", "_law_k"] (spCell K) := by
  refine F.ok scCell (fun vs H Q E h => ?_) (fun cdv A outer s H vs Q E hr h => ?_)
  · obtain ⟨a, ns, k, rfl, _⟩ := h
    rfl
  · obtain ⟨a, ns, k, rfl, hS, hl, h0, h1, q⟩ := h
    refine ⟨_, pss_cons (ps_if (pt_cmpR op_lt (pv 1) (pe_callB call_len_seq (by rfl) T.len PySem.boot_len (pa_cons (pv 0) pa_nil)) (nomark _)) (pss_one (ps_ret (pe_callTy call_int1 (by rfl) T.int (by decide +kernel) (pa_cons (pe_ix ix_list (pv 0) (pv 1) (fun _ _ => rfl)) pa_nil)))) pss_nil)
      (pss_cons (ps_set (i := 2) scCell.nd rfl (.inl rfl) (pe_op op_add (pe_op op_add pe_int (pe_op op_mul (pe_op op_mul pe_int (pv 1)) (pv 1))) (pe_op op_mul pe_int (pv 1))))
      (pss_cons (ps_for PassesOwn.never rfl (pi_list (pe_slice sl_list (pv 0) po_none (po_some pe_int))) (pg_name (i := 3) scCell.nd rfl (.inl rfl))
        (pss_one (ps_set (i := 2) scCell.nd rfl (.inl rfl) (pe_op op_mod (pe_callTy call_int1 (by rfl) T.int (by decide +kernel) (pa_cons (pe_op op_add (pe_op op_mul (pv 2) pe_int) (pe_op op_mul (pe_callTy call_int1 (by rfl) T.int (by decide +kernel) (pa_cons (pv 3) pa_nil)) (pe_op op_add (pv 1) pe_int))) pa_nil)) pe_int))))
      (pss_one (ps_ret (pv 2))))), ?_⟩
    refine ⟨_, rfl, _, rfl, a, _, rfl, .inl hS, _, _, rfl, rfl, _, rfl, ?_⟩
    have hlen : ((ns.map V.int).length : Int) = (ns.length : Int) := by rw [List.length_map]
    refine ite2 (fun hc => ?_) (fun hc => ?_)
    · have hk : k < (ns.length : Int) := by rw [← hlen]; exact of_decide_eq_true hc
      have hj : k.toNat < ns.length := by omega
      refine ⟨_, rfl, _, rfl, a, _, k, .int ns[k.toNat], rfl, rfl, hS, at_of (j := k.toNat) (by omega) (by rw [List.getElem?_map, List.getElem?_eq_getElem hj]; rfl), .inl ⟨_, rfl, ?_⟩⟩
      exact q _ _ (Same.refl _)
    · refine ⟨_, rfl, 7, k, rfl, rfl, .inl ⟨by decide, by decide⟩, _, rfl, _, _, rfl, rfl, .inr ⟨by omega, by omega⟩, _, _, rfl, rfl, _, rfl, 3, k, rfl, rfl, .inl ⟨by decide, by decide⟩, _, _, rfl, rfl, ?_⟩
      refine ⟨_, rfl, _, rfl, a, _, rfl, hS, fun p hp => ?_⟩
      have hp' : H p = none := hp
      refine ⟨p, rfl, ⟨_, SqL.of upd_same⟩, for_list (K := K) (a := p) (xs := cutV (ns.map V.int) none (some 4)) (fun i σ H' => H' = upd H p (.lst (cutV (ns.map V.int) none (some 4))) ∧ ∃ m v, σ = [some (.ref a), some (.int k), some (.int m), v]) ⟨rfl, _, none, rfl⟩ (fun i σ H' _ ⟨e, _⟩ => by rw [e]; exact SqL.of upd_same) ?_ ?_⟩
      · rintro i y σ H' hi ⟨rfl, m, v, rfl⟩
        obtain ⟨z, rfl⟩ : ∃ z, y = V.int z := by
          have hm : y ∈ cutV (ns.map V.int) none (some 4) := List.mem_of_getElem? hi
          unfold cutV at hm
          obtain ⟨z, _, e⟩ := List.mem_map.mp (List.mem_of_mem_drop (List.mem_of_mem_take hm))
          exact ⟨z, e.symm⟩
        refine ⟨_, rfl, m, 69621, rfl, rfl, .inr ⟨by decide, by decide⟩, _, rfl, .inl ⟨z, rfl, _, rfl, _, _, rfl, rfl, z, k + 3, rfl, rfl, .inr ⟨by omega, by omega⟩, _, _, rfl, rfl, .inl ⟨_, rfl, _, _, rfl, rfl, (by show (0 : Int) < 2147483629; decide), ?_⟩⟩⟩
        exact ⟨rfl, _, _, rfl⟩
      · rintro σ H' ⟨rfl, m, v, rfl⟩
        refine ⟨_, rfl, q _ _ fun b o e => ?_⟩
        rw [upd_ne (ne_of_none e hp')]
        exact e
/-- a list of three ints: the law's source of draws -/
def SrcAt (H : Hp) (a : Addr) : Prop := ∃ x y z : Int, H a = some (.lst [.int x, .int y, .int z])
/-- all that was tracked but the thing at a is as it was -/
def But (a : Addr) (H H' : Hp) : Prop := ∀ b o, b ≠ a → H b = some o → H' b = some o
theorem But.refl (a : Addr) (H : Hp) : But a H H := fun _ _ _ e => e
theorem But.trans {a : Addr} {H H1 H2 : Hp} (x : But a H H1) (y : But a H1 H2) : But a H H2 := fun b o n e => y b o n (x b o n e)
theorem But.upd {a : Addr} {H : Hp} {o : HO} : But a H (upd H a o) := fun b u n e => by rw [upd_ne n]; exact e
theorem But.new {a p : Addr} {H H1 : Hp} {o : HO} (x : But a H H1) (h : H1 p = none) : But a H (L2.upd H1 p o) := fun b u n e => by rw [upd_ne (ne_of_none (x b u n e) h)]; exact x b u n e
theorem SrcAt.ne {H : Hp} {a p : Addr} (s : SrcAt H a) (h : H p = none) : a ≠ p := by
  obtain ⟨x, y, z, e⟩ := s
  exact ne_of_none e h

theorem scSource : FnScope ["_law_cell_here", "_law_great"] ["_law_cell_here"] (defScope sSource) := ⟨rfl, rfl, rfl, by decide +kernel, rfl, by decide +kernel, by decide +kernel⟩
def spSource : Sp := fun vs H Q _ => ∃ c : Int, vs = [.int c] ∧ ∀ p H', H p = none → Same H H' → SrcAt H' p → Q (.ref p) H'
theorem ok_source {f : Addr} {fd : FuncData} (F : Fun K "_law_source" "_law_source" sSource f fd) (T : Blt mg) : FnOk P w K mg base CX0 1 f fd ["_law_cell_here"] spSource := by
  refine F.ok scSource (fun vs H Q E h => ?_) (fun cdv A outer s H vs Q E hr h => ?_)
  · obtain ⟨c, rfl, _⟩ := h
    rfl
  · obtain ⟨c, rfl, q⟩ := h
    refine ⟨_, pss_cons (ps_set (i := 1) scSource.nd rfl (.inl rfl) (pe_ifExp (pt_cmpR op_ge (pe_callB call_abs (by rfl) T.abs (by decide +kernel) (pa_cons (pv 0) pa_nil)) (pe_op op_pow pe_int pe_int) (nomark _)) (pe_callB call_abs (by rfl) T.abs (by decide +kernel) (pa_cons (pv 0) pa_nil)) pe_int))
      (pss_one (ps_ret (pe_lst (pa_cons (pe_op op_mod (pe_callTy call_int1 (by rfl) T.int (by decide +kernel) (pa_cons (pe_op op_add (pe_op op_mul (pv 0) pe_int) pe_int) pa_nil)) pe_int) (pa_cons (pv 1) (pa_cons pe_int pa_nil)))))), ?_⟩
    have tail : ∀ g : Int, tRet (tLst (tCons (tOp (rI (fun _ j => 0 < j) fun i j => V.int (i % j)) (tCB (fun xs H Q => (∃ i, xs = [V.int i] ∧ Q (V.int i) H) ∨ ∃ k, xs = [V.bl k] ∧ Q (V.int (if k = true then 1 else 0)) H) (tCons (tOp (rI0 fun i j => V.int (i + j)) (tOp (rI CMul fun i j => V.int (i * j)) (tVar 0) (tC (V.int 48271))) (tC (V.int 977))) tNil)) (tC (V.int 2147483629))) (tCons (tVar 1) (tCons (tC (V.int 0)) tNil))))
        { nx := fun _ H' => Q .non H', rt := Q } [some (.int c), some (.int g)] H := fun g => by
      refine ⟨_, rfl, c, 48271, rfl, rfl, .inr ⟨by decide, by decide⟩, _, _, rfl, rfl, .inl ⟨_, rfl, _, _, rfl, rfl, (by show (0 : Int) < 2147483629; decide), _, rfl, (by show 3 ≤ sizeLine; decide), fun p hp => ?_⟩⟩
      have hp' : H p = none := hp
      exact q p _ hp' (fun b o e => by rw [upd_ne (ne_of_none e hp')]; exact e) ⟨_, _, _, upd_same⟩
    refine ⟨_, rfl, c, rfl, 10, 18, rfl, rfl, ⟨by decide, by decide, by decide⟩, _, _, rfl, rfl, _, rfl, ?_⟩
    refine ite2 (fun _ => ?_) (fun _ => ?_)
    · exact ⟨_, rfl, c, rfl, tail _⟩
    · exact tail 0

theorem scDraw : FnScope ["_law_source_here", "_law_many", "_law_first", "_law_turned", "_law_digit"] ["_law_source_here", "_law_many"] (defScope sDraw) := ⟨rfl, rfl, rfl, by decide +kernel, rfl, by decide +kernel, by decide +kernel⟩
def spDraw : Sp := fun vs H Q _ => ∃ (a : Addr) (m : Int), vs = [.ref a, .int m] ∧ 0 < m ∧ m ≤ 100000000000000000000 ∧ SrcAt H a ∧ ∀ d H', 0 ≤ d → d < m → SrcAt H' a → But a H H' → Q (.int d) H'
theorem log_of {m : Int} (h0 : 0 < m) (h : m ≤ 100000000000000000000) : m.natAbs.log2 < 9000 := by
  have e : m.natAbs < 2 ^ 70 := by omega
  exact Nat.lt_of_lt_of_le (PySem.Flt.log2_lt_of (by decide) e) (by decide)
theorem ok_draw {f : Addr} {fd : FuncData} (F : Fun K "_law_draw" "_law_draw" sDraw f fd) (T : Blt mg) : FnOk P w K mg base CX0 1 f fd ["_law_source_here", "_law_many"] spDraw := by
  refine F.ok scDraw (fun vs H Q E h => ?_) (fun cdv A outer s H vs Q E hr h => ?_)
  · obtain ⟨a, m, rfl, _⟩ := h
    rfl
  · obtain ⟨a, m, rfl, h0, h1, ⟨x, y, z, hs⟩, q⟩ := h
    have hL := log_of h0 h1
    have pt : m.natAbs.log2 < 9000 := hL
    refine ⟨_, pss_cons (ps_asg (pe_op op_add (pe_ix ix_list (pv 0) pe_int (fun _ _ => rfl)) pe_int) (pg_sub (pv 0) pe_int set_list))
      (pss_cons (ps_set (i := 2) scDraw.nd rfl (.inl rfl) (pe_callTy call_int1 (by rfl) T.int (by decide +kernel) (pa_cons (pe_ix ix_list (pv 0) pe_int (fun _ _ => rfl)) pa_nil)))
      (pss_cons (ps_set (i := 3) scDraw.nd rfl (.inl rfl) (pe_callTy call_int1 (by rfl) T.int (by decide +kernel) (pa_cons (pe_op op_add (pe_op op_add (pe_op op_mul (pv 2) (pe_op op_add (pe_op op_mod (pe_callTy call_int1 (by rfl) T.int (by decide +kernel) (pa_cons (pv 2) pa_nil)) pe_int) pe_int)) (pe_op op_mul pe_int (pe_ix ix_list (pv 0) pe_int (fun _ _ => rfl)))) pe_int) pa_nil)))
      (pss_cons (ps_asg (pe_op op_mod (pe_callTy call_int1 (by rfl) T.int (by decide +kernel) (pa_cons (pv 3) pa_nil)) pe_int) (pg_sub (pv 0) pe_int set_list))
      (pss_cons (ps_if (pt_cmpR op_gt (pe_ix ix_list (pv 0) pe_int (fun _ _ => rfl)) pe_int (nomark _))
        (pss_cons (ps_asg (pe_callB call_divmodW (by rfl) T.dvm (by decide +kernel) (pa_cons (pe_ix ix_list (pv 0) pe_int (fun _ _ => rfl)) (pa_cons (pv 1) pa_nil))) (pg_tup rfl (pgs_cons (pg_sub (pv 0) pe_int set_list) (pgs_cons (pg_name (i := 4) scDraw.nd rfl (.inl rfl)) pgs_nil))))
          (pss_one (ps_ret (pv 4)))) pss_nil)
      (pss_one (ps_ret (pe_op op_mod (pe_callTy call_int1 (by rfl) T.int (by decide +kernel) (pa_cons (pe_op op_fdiv (pe_ix ix_list (pv 0) pe_int (fun _ _ => rfl)) pe_int) pa_nil)) (pv 1)))))))), ?_⟩
    refine ⟨_, rfl, a, _, 2, .int z, rfl, rfl, SqL.of hs, (by rfl), z, 1, rfl, rfl, _, rfl, a, _, 2, 2, rfl, rfl, hs, (by rfl), ?_⟩
    refine ⟨_, rfl, a, [.int x, .int y, .int (z + 1)], 0, .int x, rfl, rfl, SqL.of upd_same, (by rfl), .inl ⟨x, rfl, ?_⟩⟩
    have b1 : 0 ≤ x % 30011 := Int.emod_nonneg _ (by decide)
    have b2 : x % 30011 < 30011 := Int.emod_lt_of_pos _ (by decide)
    refine ⟨_, rfl, _, rfl, .inl ⟨x, rfl, x, 30011, rfl, rfl, (by show (0 : Int) < 30011; decide), _, _, rfl, rfl, x, _, rfl, rfl, .inr ⟨by omega, by omega⟩, _, rfl, a, [.int x, .int y, .int (z + 1)], 2, .int (z + 1), rfl, rfl, SqL.of upd_same, (by rfl), 65539, _, rfl, rfl, .inl ⟨by decide, by decide⟩, _, _, rfl, rfl, _, _, rfl, rfl, .inl ⟨_, rfl, ?_⟩⟩⟩
    refine ⟨_, rfl, .inl ⟨_, rfl, _, _, rfl, rfl, (by show (0 : Int) < 2147483629; decide), _, rfl, a, [.int x, .int y, .int (z + 1)], 0, 0, rfl, rfl, upd_same, (by rfl), ?_⟩⟩
    refine ⟨_, rfl, a, [.int _, .int y, .int (z + 1)], 1, .int y, rfl, rfl, SqL.of upd_same, (by rfl), _, _, rfl, rfl, _, rfl, ?_⟩
    refine ite2 (fun _ => ?_) (fun _ => ?_)
    · refine ⟨_, rfl, a, [.int _, .int y, .int (z + 1)], 1, .int y, rfl, rfl, SqL.of upd_same, (by rfl), _, rfl, y, m, rfl, ⟨h0, PyProof.noPylong_of_log2 hL⟩, fun p hp => ?_⟩
      have nap : a ≠ p := ne_of_none upd_same hp
      refine ⟨p, _, rfl, SqT.of upd_same, rfl, _, _, rfl, _, rfl, a, [.int _, .int y, .int (z + 1)], 1, 1, rfl, rfl, (by rw [upd_ne nap]; exact upd_same), (by rfl), _, _, rfl, rfl, ?_⟩
      refine ⟨_, rfl, q _ _ (Int.emod_nonneg _ (by omega)) (Int.emod_lt_of_pos _ h0) ⟨_, _, _, upd_same⟩ ?_⟩
      exact (((But.upd (a := a)).trans But.upd).new hp).trans But.upd
    · refine ⟨_, rfl, a, [.int _, .int y, .int (z + 1)], 0, .int _, rfl, rfl, SqL.of upd_same, (by rfl), _, _, rfl, rfl, ⟨by decide, by decide⟩, .inl ⟨_, rfl, _, rfl, _, _, rfl, rfl, h0, ?_⟩⟩
      exact q _ _ (Int.emod_nonneg _ (by omega)) (Int.emod_lt_of_pos _ h0) ⟨_, _, _, upd_same⟩ ((But.upd (a := a)).trans But.upd)
end
end T01

namespace T01
open PySem PySem.Spec PyProof.Rows L2 SF SX
def nms : List Str := ["InvalidNumber", "InvalidText", "InvalidCount", "InvalidName", "InvalidTruth", "InvalidEntries", "InvalidData", "InvalidLength", "InvalidPath", "InvalidClaim", "InvalidIndex", "NotAFormula", "NotASeries", "NotARunner", "TextError", "UnknownName", "Taken", "InUse", "Circular", "Clash", "NoSeries", "NoEntry", "NotMade", "DividedByZero", "TooLarge", "TooHeavy", "NotUndoable", "NoWay", "Ended", "NothingToUndo", "Broken"]
/-- the name of the i-th class of errors -/
def nm (i : Nat) : Str := nms.getD i ""
def fldss : List (List Str) := [["given"], ["given"], ["given"], ["given"], ["given"], ["given"], ["given"], ["given"], ["given"], ["given"], ["given"], ["given"], ["given"], ["given"], ["place"], ["given"], ["given"], ["user"], ["given"], ["given"], ["given"], ["given"], ["given"], [], ["limit"], ["limit"], ["reason", "place"], ["place"], [], [], ["index", "shown"]]
def fl (i : Nat) : List Str := fldss.getD i []
def bnms : List Str := ["GivenError", "NameProblem", "AnswerError"]
/-- which of the three bases it stands under -/
def bas (i : Nat) : Nat := if i < 15 then 0 else if i < 23 then 1 else 2
def tps : List String := ["ValueError", "LookupError", "ArithmeticError"]
def fars : List String := ["KeyError", "IndexError", "ZeroDivisionError", "OverflowError"]
def fnames : List Str := ["given", "place", "user", "limit", "reason", "index", "shown"]
/-- the errors' classes as they stand behind the top -/
structure ErrT (K : PySem.W.Frag) (mg : Str → Option Value) (cs bs : Nat → Addr) : Prop where
  g : ∀ i, i < 31 → mg (nm i) = some (.ref (cs i))
  gb : ∀ j, j < 3 → mg (bnms.getD j "") = some (.ref (bs j))
  ex : ∀ i, i < 31 → ExcC K (cs i)
  xf : ∀ i, i < 31 → XfC K (cs i)
  no : ∀ i, i < 31 → ∀ f ∈ fnames, PySem.W.findIn K (.ref (cs i)) f = some none
  kit : ∀ i j, i < 31 → j < 31 → PySem.W.kitOne K (.ref (cs i)) (.ref (cs j)) = some (decide (i = j))
  kitB : ∀ i j, i < 31 → j < 3 → PySem.W.kitOne K (.ref (cs i)) (.ref (bs j)) = some (decide (bas i = j))
  kitT : ∀ i j, i < 31 → j < 3 → PySem.W.kitOne K (.ref (cs i)) (.type (tps.getD j "")) = some (decide (bas i = j))
  kitF : ∀ i j, i < 31 → j < 4 → PySem.W.kitOne K (.ref (cs i)) (.type (fars.getD j "")) = some false
  isi : mg "isinstance" = none
  val : mg "ValueError" = none
  loo : mg "LookupError" = none
  ari : mg "ArithmeticError" = none
  key : mg "KeyError" = none
  ind : mg "IndexError" = none
  zer : mg "ZeroDivisionError" = none
  ove : mg "OverflowError" = none
section
variable {P : Program} {w : World} {K : PySem.W.Frag} {mg : Str → Option Value} {base : Heap} {cs bs : Nat → Addr} {H H' : Hp}
theorem upd_got {p : Addr} {o : HO} (h : upd H p o = H') : H' p = some o := by rw [← h]; exact upd_same
theorem upd_stay {p : Addr} {o : HO} (h : upd H p o = H') (n : H p = none) : Same H H' := by rw [← h]; exact fun b u e => by rw [upd_ne (ne_of_none e n)]; exact e

abbrev sGiven : Stmt := top 47
theorem scGiven : FnScope ["_law_e", "_law_sorts", "_law_words"] ["_law_e"] (defScope sGiven) := ⟨rfl, rfl, rfl, by decide +kernel, rfl, by decide +kernel, by decide +kernel⟩
def spGiven (cs : Nat → Addr) : Sp := fun vs H Q _ => ∃ (a : Addr) (i : Nat) (fs : List (Str × V)), vs = [.ref a] ∧ i < 31 ∧ ExA H a (cs i) fs ∧ ∀ H', Same H H' → Q (.str (if 0 ≤ i ∧ i < 15 then nm i else "")) H'
def blsGiven (i : Nat) : List V := [V.bl (decide (i = 0)), V.bl (decide (i = 1)), V.bl (decide (i = 2)), V.bl (decide (i = 3)), V.bl (decide (i = 4)), V.bl (decide (i = 5)), V.bl (decide (i = 6)), V.bl (decide (i = 7)), V.bl (decide (i = 8)), V.bl (decide (i = 9)), V.bl (decide (i = 10)), V.bl (decide (i = 11)), V.bl (decide (i = 12)), V.bl (decide (i = 13)), V.bl (decide (i = 14))]
def wlsGiven : List V := [V.str "InvalidNumber", V.str "InvalidText", V.str "InvalidCount", V.str "InvalidName", V.str "InvalidTruth", V.str "InvalidEntries", V.str "InvalidData", V.str "InvalidLength", V.str "InvalidPath", V.str "InvalidClaim", V.str "InvalidIndex", V.str "NotAFormula", V.str "NotASeries", V.str "NotARunner", V.str "TextError"]
theorem sGiven_c : ∀ i, i < 31 → (blsGiven i).countP (fun z => eqV z (.bl true)) = if 0 ≤ i ∧ i < 15 then 1 else 0 := by decide +kernel
theorem sGiven_i : ∀ i, i < 31 → 0 ≤ i → i < 15 → (blsGiven i)[i - 0]? = some (V.bl true) ∧ (∀ m, m < i - 0 → (blsGiven i)[m]? = some (V.bl false)) ∧ wlsGiven[i - 0]? = some (.str (nm i)) := by decide +kernel
theorem okGiven {f : Addr} {fd : FuncData} (F : Fun K "_law_given" "_law_given" sGiven f fd) (T : ErrT K mg cs bs) : FnOk P w K mg base CX0 1 f fd ["_law_e"] (spGiven cs) := by
  refine F.ok scGiven (fun vs H Q E h => ?_) (fun cdv A outer s H vs Q E hr h => ?_)
  · obtain ⟨a, i, fs, rfl, _⟩ := h
    rfl
  · obtain ⟨a, i, fs, rfl, hi, HA, q⟩ := h
    refine ⟨_, (pss_cons (ps_set (i := 1) scGiven.nd rfl (.inl rfl) (pe_lst (pa_cons (pe_callB call_isX (by rfl) T.isi (by decide +kernel) (pa_cons (pv 0) (pa_cons (pe_glob (v := .ref (cs 0)) (u := .ref (cs 0)) (by rfl) (T.g 0 (by decide)) rfl) pa_nil))) (pa_cons (pe_callB call_isX (by rfl) T.isi (by decide +kernel) (pa_cons (pv 0) (pa_cons (pe_glob (v := .ref (cs 1)) (u := .ref (cs 1)) (by rfl) (T.g 1 (by decide)) rfl) pa_nil))) (pa_cons (pe_callB call_isX (by rfl) T.isi (by decide +kernel) (pa_cons (pv 0) (pa_cons (pe_glob (v := .ref (cs 2)) (u := .ref (cs 2)) (by rfl) (T.g 2 (by decide)) rfl) pa_nil))) pa_nil)))))
      (pss_cons (ps_set (i := 1) scGiven.nd rfl (.inl rfl) (pe_op op_cat (pv 1) (pe_lst (pa_cons (pe_callB call_isX (by rfl) T.isi (by decide +kernel) (pa_cons (pv 0) (pa_cons (pe_glob (v := .ref (cs 3)) (u := .ref (cs 3)) (by rfl) (T.g 3 (by decide)) rfl) pa_nil))) (pa_cons (pe_callB call_isX (by rfl) T.isi (by decide +kernel) (pa_cons (pv 0) (pa_cons (pe_glob (v := .ref (cs 4)) (u := .ref (cs 4)) (by rfl) (T.g 4 (by decide)) rfl) pa_nil))) (pa_cons (pe_callB call_isX (by rfl) T.isi (by decide +kernel) (pa_cons (pv 0) (pa_cons (pe_glob (v := .ref (cs 5)) (u := .ref (cs 5)) (by rfl) (T.g 5 (by decide)) rfl) pa_nil))) pa_nil))))))
      (pss_cons (ps_set (i := 1) scGiven.nd rfl (.inl rfl) (pe_op op_cat (pv 1) (pe_lst (pa_cons (pe_callB call_isX (by rfl) T.isi (by decide +kernel) (pa_cons (pv 0) (pa_cons (pe_glob (v := .ref (cs 6)) (u := .ref (cs 6)) (by rfl) (T.g 6 (by decide)) rfl) pa_nil))) (pa_cons (pe_callB call_isX (by rfl) T.isi (by decide +kernel) (pa_cons (pv 0) (pa_cons (pe_glob (v := .ref (cs 7)) (u := .ref (cs 7)) (by rfl) (T.g 7 (by decide)) rfl) pa_nil))) (pa_cons (pe_callB call_isX (by rfl) T.isi (by decide +kernel) (pa_cons (pv 0) (pa_cons (pe_glob (v := .ref (cs 8)) (u := .ref (cs 8)) (by rfl) (T.g 8 (by decide)) rfl) pa_nil))) pa_nil))))))
      (pss_cons (ps_set (i := 1) scGiven.nd rfl (.inl rfl) (pe_op op_cat (pv 1) (pe_lst (pa_cons (pe_callB call_isX (by rfl) T.isi (by decide +kernel) (pa_cons (pv 0) (pa_cons (pe_glob (v := .ref (cs 9)) (u := .ref (cs 9)) (by rfl) (T.g 9 (by decide)) rfl) pa_nil))) (pa_cons (pe_callB call_isX (by rfl) T.isi (by decide +kernel) (pa_cons (pv 0) (pa_cons (pe_glob (v := .ref (cs 10)) (u := .ref (cs 10)) (by rfl) (T.g 10 (by decide)) rfl) pa_nil))) (pa_cons (pe_callB call_isX (by rfl) T.isi (by decide +kernel) (pa_cons (pv 0) (pa_cons (pe_glob (v := .ref (cs 11)) (u := .ref (cs 11)) (by rfl) (T.g 11 (by decide)) rfl) pa_nil))) pa_nil))))))
      (pss_cons (ps_set (i := 1) scGiven.nd rfl (.inl rfl) (pe_op op_cat (pv 1) (pe_lst (pa_cons (pe_callB call_isX (by rfl) T.isi (by decide +kernel) (pa_cons (pv 0) (pa_cons (pe_glob (v := .ref (cs 12)) (u := .ref (cs 12)) (by rfl) (T.g 12 (by decide)) rfl) pa_nil))) (pa_cons (pe_callB call_isX (by rfl) T.isi (by decide +kernel) (pa_cons (pv 0) (pa_cons (pe_glob (v := .ref (cs 13)) (u := .ref (cs 13)) (by rfl) (T.g 13 (by decide)) rfl) pa_nil))) (pa_cons (pe_callB call_isX (by rfl) T.isi (by decide +kernel) (pa_cons (pv 0) (pa_cons (pe_glob (v := .ref (cs 14)) (u := .ref (cs 14)) (by rfl) (T.g 14 (by decide)) rfl) pa_nil))) pa_nil))))))
      (pss_cons (ps_set (i := 2) scGiven.nd rfl (.inl rfl) (pe_lst (pa_cons pe_str (pa_cons pe_str (pa_cons pe_str (pa_cons pe_str (pa_cons pe_str (pa_cons pe_str pa_nil))))))))
      (pss_cons (ps_set (i := 2) scGiven.nd rfl (.inl rfl) (pe_op op_cat (pv 2) (pe_lst (pa_cons pe_str (pa_cons pe_str (pa_cons pe_str (pa_cons pe_str (pa_cons pe_str (pa_cons pe_str pa_nil)))))))))
      (pss_cons (ps_set (i := 2) scGiven.nd rfl (.inl rfl) (pe_op op_cat (pv 2) (pe_lst (pa_cons pe_str (pa_cons pe_str (pa_cons pe_str pa_nil))))))
      (pss_one (ps_ret (pe_ifExp (pt_cmpR op_eq (pe_bm PySem.F.plainAttrs_list PySem.F.slot_list_count PySem.F.type_list_count mt_countF (pv 1) (pa_cons pe_bl pa_nil)) pe_int (nomark _)) (pe_ix ix_list (pv 2) (pe_bm PySem.F.plainAttrs_list PySem.F.slot_list_index PySem.F.type_list_index mt_index (pv 1) (pa_cons pe_bl pa_nil)) (fun _ _ => rfl)) pe_str))))))))))), ?_⟩
    -- _law_sorts = [isinstance(_law_e, InvalidNumber), isinstance(
    refine ⟨_, rfl, a, cs i, fs, _, _, _, rfl, .own _, HA, T.ex i hi, T.kit i 0 hi (by decide), _, rfl, a, cs i, fs, _, _, _, rfl, .own _, HA, T.ex i hi, T.kit i 1 hi (by decide), _, rfl, a, cs i, fs, _, _, _, rfl, .own _, HA, T.ex i hi, T.kit i 2 hi (by decide), (by show 3 ≤ sizeLine; decide), fun p1 n1 => ?_⟩
    generalize h1 : upd H p1 _ = H1
    have g1 := upd_got h1
    have y1 := upd_stay h1 n1
    replace HA := HA.same y1
    -- _law_sorts = _law_sorts + [isinstance(_law_e, InvalidName), 
    refine ⟨_, rfl, _, rfl, a, cs i, fs, _, _, _, rfl, .own _, HA, T.ex i hi, T.kit i 3 hi (by decide), _, rfl, a, cs i, fs, _, _, _, rfl, .own _, HA, T.ex i hi, T.kit i 4 hi (by decide), _, rfl, a, cs i, fs, _, _, _, rfl, .own _, HA, T.ex i hi, T.kit i 5 hi (by decide), (by show 3 ≤ sizeLine; decide), fun p2 n2 => ?_⟩
    generalize h2 : upd H1 p2 _ = H2
    have g2 := upd_got h2
    have y2 := upd_stay h2 n2
    replace HA := HA.same y2
    have k2 := y2 _ _ g1
    refine ⟨p1, p2, _, _, rfl, rfl, k2, g2, (by show 6 ≤ sizeLine; decide), fun p3 n3 => ?_⟩
    generalize h3 : upd H2 p3 _ = H3
    have g3 := upd_got h3
    have y3 := upd_stay h3 n3
    replace HA := HA.same y3
    -- _law_sorts = _law_sorts + [isinstance(_law_e, InvalidData), 
    refine ⟨_, rfl, _, rfl, a, cs i, fs, _, _, _, rfl, .own _, HA, T.ex i hi, T.kit i 6 hi (by decide), _, rfl, a, cs i, fs, _, _, _, rfl, .own _, HA, T.ex i hi, T.kit i 7 hi (by decide), _, rfl, a, cs i, fs, _, _, _, rfl, .own _, HA, T.ex i hi, T.kit i 8 hi (by decide), (by show 3 ≤ sizeLine; decide), fun p4 n4 => ?_⟩
    generalize h4 : upd H3 p4 _ = H4
    have g4 := upd_got h4
    have y4 := upd_stay h4 n4
    replace HA := HA.same y4
    have k4 := y4 _ _ g3
    refine ⟨p3, p4, _, _, rfl, rfl, k4, g4, (by show 9 ≤ sizeLine; decide), fun p5 n5 => ?_⟩
    generalize h5 : upd H4 p5 _ = H5
    have g5 := upd_got h5
    have y5 := upd_stay h5 n5
    replace HA := HA.same y5
    -- _law_sorts = _law_sorts + [isinstance(_law_e, InvalidClaim),
    refine ⟨_, rfl, _, rfl, a, cs i, fs, _, _, _, rfl, .own _, HA, T.ex i hi, T.kit i 9 hi (by decide), _, rfl, a, cs i, fs, _, _, _, rfl, .own _, HA, T.ex i hi, T.kit i 10 hi (by decide), _, rfl, a, cs i, fs, _, _, _, rfl, .own _, HA, T.ex i hi, T.kit i 11 hi (by decide), (by show 3 ≤ sizeLine; decide), fun p6 n6 => ?_⟩
    generalize h6 : upd H5 p6 _ = H6
    have g6 := upd_got h6
    have y6 := upd_stay h6 n6
    replace HA := HA.same y6
    have k6 := y6 _ _ g5
    refine ⟨p5, p6, _, _, rfl, rfl, k6, g6, (by show 12 ≤ sizeLine; decide), fun p7 n7 => ?_⟩
    generalize h7 : upd H6 p7 _ = H7
    have g7 := upd_got h7
    have y7 := upd_stay h7 n7
    replace HA := HA.same y7
    -- _law_sorts = _law_sorts + [isinstance(_law_e, NotASeries), i
    refine ⟨_, rfl, _, rfl, a, cs i, fs, _, _, _, rfl, .own _, HA, T.ex i hi, T.kit i 12 hi (by decide), _, rfl, a, cs i, fs, _, _, _, rfl, .own _, HA, T.ex i hi, T.kit i 13 hi (by decide), _, rfl, a, cs i, fs, _, _, _, rfl, .own _, HA, T.ex i hi, T.kit i 14 hi (by decide), (by show 3 ≤ sizeLine; decide), fun p8 n8 => ?_⟩
    generalize h8 : upd H7 p8 _ = H8
    have g8 := upd_got h8
    have y8 := upd_stay h8 n8
    replace HA := HA.same y8
    have k8 := y8 _ _ g7
    refine ⟨p7, p8, _, _, rfl, rfl, k8, g8, (by show 15 ≤ sizeLine; decide), fun p9 n9 => ?_⟩
    generalize h9 : upd H8 p9 _ = H9
    have g9 := upd_got h9
    have y9 := upd_stay h9 n9
    replace HA := HA.same y9
    -- _law_words = ['InvalidNumber', 'InvalidText', 'InvalidCount'
    refine ⟨(by show 6 ≤ sizeLine; decide), fun p10 n10 => ?_⟩
    generalize h10 : upd H9 p10 _ = H10
    have g10 := upd_got h10
    have y10 := upd_stay h10 n10
    replace HA := HA.same y10
    -- _law_words = _law_words + ['InvalidData', 'InvalidLength', '
    refine ⟨_, rfl, (by show 6 ≤ sizeLine; decide), fun p11 n11 => ?_⟩
    generalize h11 : upd H10 p11 _ = H11
    have g11 := upd_got h11
    have y11 := upd_stay h11 n11
    replace HA := HA.same y11
    have k11 := y11 _ _ g10
    refine ⟨p10, p11, _, _, rfl, rfl, k11, g11, (by show 12 ≤ sizeLine; decide), fun p12 n12 => ?_⟩
    generalize h12 : upd H11 p12 _ = H12
    have g12 := upd_got h12
    have y12 := upd_stay h12 n12
    replace HA := HA.same y12
    -- _law_words = _law_words + ['NotASeries', 'NotARunner', 'Text
    refine ⟨_, rfl, (by show 3 ≤ sizeLine; decide), fun p13 n13 => ?_⟩
    generalize h13 : upd H12 p13 _ = H13
    have g13 := upd_got h13
    have y13 := upd_stay h13 n13
    replace HA := HA.same y13
    have k13 := y13 _ _ g12
    refine ⟨p12, p13, _, _, rfl, rfl, k13, g13, (by show 15 ≤ sizeLine; decide), fun p14 n14 => ?_⟩
    generalize h14 : upd H13 p14 _ = H14
    have g14 := upd_got h14
    have y14 := upd_stay h14 n14
    replace HA := HA.same y14
    have S : Same H H14 := (((((((((((((y1.trans y2).trans y3).trans y4).trans y5).trans y6).trans y7).trans y8).trans y9).trans y10).trans y11).trans y12).trans y13).trans y14)
    have gs : H14 p9 = some (.lst (blsGiven i)) := (y14 _ _ (y13 _ _ (y12 _ _ (y11 _ _ (y10 _ _ g9)))))
    have gw : H14 p14 = some (.lst wlsGiven) := g14
    have fall : (blsGiven i).all flatV = true := rfl
    refine ⟨_, rfl, .inl ⟨rfl, _, SqL.of gs⟩, p9, _, _, rfl, rfl, SqL.of gs, rfl, fall, rfl, _, rfl, ?_⟩
    rw [sGiven_c i hi]
    by_cases hc : 0 ≤ i ∧ i < 15
    · obtain ⟨e1, e2, e3⟩ := sGiven_i i hi hc.1 hc.2
      rw [if_pos hc]
      refine ite2 (fun _ => ⟨_, rfl, _, rfl, .inl ⟨rfl, _, SqL.of gs⟩, p9, _, _, i - 0, _, rfl, rfl, SqL.of gs, rfl, fall, e1, rfl, (fun m z hm hz => ?_), p14, _, _, _, rfl, rfl, SqL.of gw, atI_nat e3, ?_⟩) (fun z => absurd rfl z)
      · rw [e2 m hm] at hz
        cases hz
        rfl
      · have z := q _ S
        rw [if_pos hc] at z
        exact z
    · rw [if_neg hc]
      have z := q _ S
      rw [if_neg hc] at z
      exact ite2 (fun y => absurd y (by decide)) (fun _ => z)
abbrev sOfNames : Stmt := top 48
theorem scOfNames : FnScope ["_law_e", "_law_sorts", "_law_words"] ["_law_e"] (defScope sOfNames) := ⟨rfl, rfl, rfl, by decide +kernel, rfl, by decide +kernel, by decide +kernel⟩
def spOfNames (cs : Nat → Addr) : Sp := fun vs H Q _ => ∃ (a : Addr) (i : Nat) (fs : List (Str × V)), vs = [.ref a] ∧ i < 31 ∧ ExA H a (cs i) fs ∧ ∀ H', Same H H' → Q (.str (if 15 ≤ i ∧ i < 23 then nm i else "")) H'
def blsOfNames (i : Nat) : List V := [V.bl (decide (i = 15)), V.bl (decide (i = 16)), V.bl (decide (i = 17)), V.bl (decide (i = 18)), V.bl (decide (i = 19)), V.bl (decide (i = 20)), V.bl (decide (i = 21)), V.bl (decide (i = 22))]
def wlsOfNames : List V := [V.str "UnknownName", V.str "Taken", V.str "InUse", V.str "Circular", V.str "Clash", V.str "NoSeries", V.str "NoEntry", V.str "NotMade"]
theorem sOfNames_c : ∀ i, i < 31 → (blsOfNames i).countP (fun z => eqV z (.bl true)) = if 15 ≤ i ∧ i < 23 then 1 else 0 := by decide +kernel
theorem sOfNames_i : ∀ i, i < 31 → 15 ≤ i → i < 23 → (blsOfNames i)[i - 15]? = some (V.bl true) ∧ (∀ m, m < i - 15 → (blsOfNames i)[m]? = some (V.bl false)) ∧ wlsOfNames[i - 15]? = some (.str (nm i)) := by decide +kernel
theorem okOfNames {f : Addr} {fd : FuncData} (F : Fun K "_law_of_names" "_law_of_names" sOfNames f fd) (T : ErrT K mg cs bs) : FnOk P w K mg base CX0 1 f fd ["_law_e"] (spOfNames cs) := by
  refine F.ok scOfNames (fun vs H Q E h => ?_) (fun cdv A outer s H vs Q E hr h => ?_)
  · obtain ⟨a, i, fs, rfl, _⟩ := h
    rfl
  · obtain ⟨a, i, fs, rfl, hi, HA, q⟩ := h
    refine ⟨_, (pss_cons (ps_set (i := 1) scOfNames.nd rfl (.inl rfl) (pe_lst (pa_cons (pe_callB call_isX (by rfl) T.isi (by decide +kernel) (pa_cons (pv 0) (pa_cons (pe_glob (v := .ref (cs 15)) (u := .ref (cs 15)) (by rfl) (T.g 15 (by decide)) rfl) pa_nil))) (pa_cons (pe_callB call_isX (by rfl) T.isi (by decide +kernel) (pa_cons (pv 0) (pa_cons (pe_glob (v := .ref (cs 16)) (u := .ref (cs 16)) (by rfl) (T.g 16 (by decide)) rfl) pa_nil))) (pa_cons (pe_callB call_isX (by rfl) T.isi (by decide +kernel) (pa_cons (pv 0) (pa_cons (pe_glob (v := .ref (cs 17)) (u := .ref (cs 17)) (by rfl) (T.g 17 (by decide)) rfl) pa_nil))) (pa_cons (pe_callB call_isX (by rfl) T.isi (by decide +kernel) (pa_cons (pv 0) (pa_cons (pe_glob (v := .ref (cs 18)) (u := .ref (cs 18)) (by rfl) (T.g 18 (by decide)) rfl) pa_nil))) pa_nil))))))
      (pss_cons (ps_set (i := 1) scOfNames.nd rfl (.inl rfl) (pe_op op_cat (pv 1) (pe_lst (pa_cons (pe_callB call_isX (by rfl) T.isi (by decide +kernel) (pa_cons (pv 0) (pa_cons (pe_glob (v := .ref (cs 19)) (u := .ref (cs 19)) (by rfl) (T.g 19 (by decide)) rfl) pa_nil))) (pa_cons (pe_callB call_isX (by rfl) T.isi (by decide +kernel) (pa_cons (pv 0) (pa_cons (pe_glob (v := .ref (cs 20)) (u := .ref (cs 20)) (by rfl) (T.g 20 (by decide)) rfl) pa_nil))) (pa_cons (pe_callB call_isX (by rfl) T.isi (by decide +kernel) (pa_cons (pv 0) (pa_cons (pe_glob (v := .ref (cs 21)) (u := .ref (cs 21)) (by rfl) (T.g 21 (by decide)) rfl) pa_nil))) (pa_cons (pe_callB call_isX (by rfl) T.isi (by decide +kernel) (pa_cons (pv 0) (pa_cons (pe_glob (v := .ref (cs 22)) (u := .ref (cs 22)) (by rfl) (T.g 22 (by decide)) rfl) pa_nil))) pa_nil)))))))
      (pss_cons (ps_set (i := 2) scOfNames.nd rfl (.inl rfl) (pe_lst (pa_cons pe_str (pa_cons pe_str (pa_cons pe_str (pa_cons pe_str (pa_cons pe_str (pa_cons pe_str (pa_cons pe_str (pa_cons pe_str pa_nil))))))))))
      (pss_one (ps_ret (pe_ifExp (pt_cmpR op_eq (pe_bm PySem.F.plainAttrs_list PySem.F.slot_list_count PySem.F.type_list_count mt_countF (pv 1) (pa_cons pe_bl pa_nil)) pe_int (nomark _)) (pe_ix ix_list (pv 2) (pe_bm PySem.F.plainAttrs_list PySem.F.slot_list_index PySem.F.type_list_index mt_index (pv 1) (pa_cons pe_bl pa_nil)) (fun _ _ => rfl)) pe_str)))))), ?_⟩
    -- _law_sorts = [isinstance(_law_e, UnknownName), isinstance(_l
    refine ⟨_, rfl, a, cs i, fs, _, _, _, rfl, .own _, HA, T.ex i hi, T.kit i 15 hi (by decide), _, rfl, a, cs i, fs, _, _, _, rfl, .own _, HA, T.ex i hi, T.kit i 16 hi (by decide), _, rfl, a, cs i, fs, _, _, _, rfl, .own _, HA, T.ex i hi, T.kit i 17 hi (by decide), _, rfl, a, cs i, fs, _, _, _, rfl, .own _, HA, T.ex i hi, T.kit i 18 hi (by decide), (by show 4 ≤ sizeLine; decide), fun p1 n1 => ?_⟩
    generalize h1 : upd H p1 _ = H1
    have g1 := upd_got h1
    have y1 := upd_stay h1 n1
    replace HA := HA.same y1
    -- _law_sorts = _law_sorts + [isinstance(_law_e, Clash), isinst
    refine ⟨_, rfl, _, rfl, a, cs i, fs, _, _, _, rfl, .own _, HA, T.ex i hi, T.kit i 19 hi (by decide), _, rfl, a, cs i, fs, _, _, _, rfl, .own _, HA, T.ex i hi, T.kit i 20 hi (by decide), _, rfl, a, cs i, fs, _, _, _, rfl, .own _, HA, T.ex i hi, T.kit i 21 hi (by decide), _, rfl, a, cs i, fs, _, _, _, rfl, .own _, HA, T.ex i hi, T.kit i 22 hi (by decide), (by show 4 ≤ sizeLine; decide), fun p2 n2 => ?_⟩
    generalize h2 : upd H1 p2 _ = H2
    have g2 := upd_got h2
    have y2 := upd_stay h2 n2
    replace HA := HA.same y2
    have k2 := y2 _ _ g1
    refine ⟨p1, p2, _, _, rfl, rfl, k2, g2, (by show 8 ≤ sizeLine; decide), fun p3 n3 => ?_⟩
    generalize h3 : upd H2 p3 _ = H3
    have g3 := upd_got h3
    have y3 := upd_stay h3 n3
    replace HA := HA.same y3
    -- _law_words = ['UnknownName', 'Taken', 'InUse', 'Circular', '
    refine ⟨(by show 8 ≤ sizeLine; decide), fun p4 n4 => ?_⟩
    generalize h4 : upd H3 p4 _ = H4
    have g4 := upd_got h4
    have y4 := upd_stay h4 n4
    replace HA := HA.same y4
    have S : Same H H4 := (((y1.trans y2).trans y3).trans y4)
    have gs : H4 p3 = some (.lst (blsOfNames i)) := (y4 _ _ g3)
    have gw : H4 p4 = some (.lst wlsOfNames) := g4
    have fall : (blsOfNames i).all flatV = true := rfl
    refine ⟨_, rfl, .inl ⟨rfl, _, SqL.of gs⟩, p3, _, _, rfl, rfl, SqL.of gs, rfl, fall, rfl, _, rfl, ?_⟩
    rw [sOfNames_c i hi]
    by_cases hc : 15 ≤ i ∧ i < 23
    · obtain ⟨e1, e2, e3⟩ := sOfNames_i i hi hc.1 hc.2
      rw [if_pos hc]
      refine ite2 (fun _ => ⟨_, rfl, _, rfl, .inl ⟨rfl, _, SqL.of gs⟩, p3, _, _, i - 15, _, rfl, rfl, SqL.of gs, rfl, fall, e1, rfl, (fun m z hm hz => ?_), p4, _, _, _, rfl, rfl, SqL.of gw, atI_nat e3, ?_⟩) (fun z => absurd rfl z)
      · rw [e2 m hm] at hz
        cases hz
        rfl
      · have z := q _ S
        rw [if_pos hc] at z
        exact z
    · rw [if_neg hc]
      have z := q _ S
      rw [if_neg hc] at z
      exact ite2 (fun y => absurd y (by decide)) (fun _ => z)
abbrev sOfAnswers : Stmt := top 49
theorem scOfAnswers : FnScope ["_law_e", "_law_sorts", "_law_words"] ["_law_e"] (defScope sOfAnswers) := ⟨rfl, rfl, rfl, by decide +kernel, rfl, by decide +kernel, by decide +kernel⟩
def spOfAnswers (cs : Nat → Addr) : Sp := fun vs H Q _ => ∃ (a : Addr) (i : Nat) (fs : List (Str × V)), vs = [.ref a] ∧ i < 31 ∧ ExA H a (cs i) fs ∧ ∀ H', Same H H' → Q (.str (if 23 ≤ i ∧ i < 31 then nm i else "")) H'
def blsOfAnswers (i : Nat) : List V := [V.bl (decide (i = 23)), V.bl (decide (i = 24)), V.bl (decide (i = 25)), V.bl (decide (i = 26)), V.bl (decide (i = 27)), V.bl (decide (i = 28)), V.bl (decide (i = 29)), V.bl (decide (i = 30))]
def wlsOfAnswers : List V := [V.str "DividedByZero", V.str "TooLarge", V.str "TooHeavy", V.str "NotUndoable", V.str "NoWay", V.str "Ended", V.str "NothingToUndo", V.str "Broken"]
theorem sOfAnswers_c : ∀ i, i < 31 → (blsOfAnswers i).countP (fun z => eqV z (.bl true)) = if 23 ≤ i ∧ i < 31 then 1 else 0 := by decide +kernel
theorem sOfAnswers_i : ∀ i, i < 31 → 23 ≤ i → i < 31 → (blsOfAnswers i)[i - 23]? = some (V.bl true) ∧ (∀ m, m < i - 23 → (blsOfAnswers i)[m]? = some (V.bl false)) ∧ wlsOfAnswers[i - 23]? = some (.str (nm i)) := by decide +kernel
theorem okOfAnswers {f : Addr} {fd : FuncData} (F : Fun K "_law_of_answers" "_law_of_answers" sOfAnswers f fd) (T : ErrT K mg cs bs) : FnOk P w K mg base CX0 1 f fd ["_law_e"] (spOfAnswers cs) := by
  refine F.ok scOfAnswers (fun vs H Q E h => ?_) (fun cdv A outer s H vs Q E hr h => ?_)
  · obtain ⟨a, i, fs, rfl, _⟩ := h
    rfl
  · obtain ⟨a, i, fs, rfl, hi, HA, q⟩ := h
    refine ⟨_, (pss_cons (ps_set (i := 1) scOfAnswers.nd rfl (.inl rfl) (pe_lst (pa_cons (pe_callB call_isX (by rfl) T.isi (by decide +kernel) (pa_cons (pv 0) (pa_cons (pe_glob (v := .ref (cs 23)) (u := .ref (cs 23)) (by rfl) (T.g 23 (by decide)) rfl) pa_nil))) (pa_cons (pe_callB call_isX (by rfl) T.isi (by decide +kernel) (pa_cons (pv 0) (pa_cons (pe_glob (v := .ref (cs 24)) (u := .ref (cs 24)) (by rfl) (T.g 24 (by decide)) rfl) pa_nil))) (pa_cons (pe_callB call_isX (by rfl) T.isi (by decide +kernel) (pa_cons (pv 0) (pa_cons (pe_glob (v := .ref (cs 25)) (u := .ref (cs 25)) (by rfl) (T.g 25 (by decide)) rfl) pa_nil))) pa_nil)))))
      (pss_cons (ps_set (i := 1) scOfAnswers.nd rfl (.inl rfl) (pe_op op_cat (pv 1) (pe_lst (pa_cons (pe_callB call_isX (by rfl) T.isi (by decide +kernel) (pa_cons (pv 0) (pa_cons (pe_glob (v := .ref (cs 26)) (u := .ref (cs 26)) (by rfl) (T.g 26 (by decide)) rfl) pa_nil))) (pa_cons (pe_callB call_isX (by rfl) T.isi (by decide +kernel) (pa_cons (pv 0) (pa_cons (pe_glob (v := .ref (cs 27)) (u := .ref (cs 27)) (by rfl) (T.g 27 (by decide)) rfl) pa_nil))) (pa_cons (pe_callB call_isX (by rfl) T.isi (by decide +kernel) (pa_cons (pv 0) (pa_cons (pe_glob (v := .ref (cs 28)) (u := .ref (cs 28)) (by rfl) (T.g 28 (by decide)) rfl) pa_nil))) pa_nil))))))
      (pss_cons (ps_set (i := 1) scOfAnswers.nd rfl (.inl rfl) (pe_op op_cat (pv 1) (pe_lst (pa_cons (pe_callB call_isX (by rfl) T.isi (by decide +kernel) (pa_cons (pv 0) (pa_cons (pe_glob (v := .ref (cs 29)) (u := .ref (cs 29)) (by rfl) (T.g 29 (by decide)) rfl) pa_nil))) (pa_cons (pe_callB call_isX (by rfl) T.isi (by decide +kernel) (pa_cons (pv 0) (pa_cons (pe_glob (v := .ref (cs 30)) (u := .ref (cs 30)) (by rfl) (T.g 30 (by decide)) rfl) pa_nil))) pa_nil)))))
      (pss_cons (ps_set (i := 2) scOfAnswers.nd rfl (.inl rfl) (pe_lst (pa_cons pe_str (pa_cons pe_str (pa_cons pe_str (pa_cons pe_str (pa_cons pe_str (pa_cons pe_str (pa_cons pe_str (pa_cons pe_str pa_nil))))))))))
      (pss_one (ps_ret (pe_ifExp (pt_cmpR op_eq (pe_bm PySem.F.plainAttrs_list PySem.F.slot_list_count PySem.F.type_list_count mt_countF (pv 1) (pa_cons pe_bl pa_nil)) pe_int (nomark _)) (pe_ix ix_list (pv 2) (pe_bm PySem.F.plainAttrs_list PySem.F.slot_list_index PySem.F.type_list_index mt_index (pv 1) (pa_cons pe_bl pa_nil)) (fun _ _ => rfl)) pe_str))))))), ?_⟩
    -- _law_sorts = [isinstance(_law_e, DividedByZero), isinstance(
    refine ⟨_, rfl, a, cs i, fs, _, _, _, rfl, .own _, HA, T.ex i hi, T.kit i 23 hi (by decide), _, rfl, a, cs i, fs, _, _, _, rfl, .own _, HA, T.ex i hi, T.kit i 24 hi (by decide), _, rfl, a, cs i, fs, _, _, _, rfl, .own _, HA, T.ex i hi, T.kit i 25 hi (by decide), (by show 3 ≤ sizeLine; decide), fun p1 n1 => ?_⟩
    generalize h1 : upd H p1 _ = H1
    have g1 := upd_got h1
    have y1 := upd_stay h1 n1
    replace HA := HA.same y1
    -- _law_sorts = _law_sorts + [isinstance(_law_e, NotUndoable), 
    refine ⟨_, rfl, _, rfl, a, cs i, fs, _, _, _, rfl, .own _, HA, T.ex i hi, T.kit i 26 hi (by decide), _, rfl, a, cs i, fs, _, _, _, rfl, .own _, HA, T.ex i hi, T.kit i 27 hi (by decide), _, rfl, a, cs i, fs, _, _, _, rfl, .own _, HA, T.ex i hi, T.kit i 28 hi (by decide), (by show 3 ≤ sizeLine; decide), fun p2 n2 => ?_⟩
    generalize h2 : upd H1 p2 _ = H2
    have g2 := upd_got h2
    have y2 := upd_stay h2 n2
    replace HA := HA.same y2
    have k2 := y2 _ _ g1
    refine ⟨p1, p2, _, _, rfl, rfl, k2, g2, (by show 6 ≤ sizeLine; decide), fun p3 n3 => ?_⟩
    generalize h3 : upd H2 p3 _ = H3
    have g3 := upd_got h3
    have y3 := upd_stay h3 n3
    replace HA := HA.same y3
    -- _law_sorts = _law_sorts + [isinstance(_law_e, NothingToUndo)
    refine ⟨_, rfl, _, rfl, a, cs i, fs, _, _, _, rfl, .own _, HA, T.ex i hi, T.kit i 29 hi (by decide), _, rfl, a, cs i, fs, _, _, _, rfl, .own _, HA, T.ex i hi, T.kit i 30 hi (by decide), (by show 2 ≤ sizeLine; decide), fun p4 n4 => ?_⟩
    generalize h4 : upd H3 p4 _ = H4
    have g4 := upd_got h4
    have y4 := upd_stay h4 n4
    replace HA := HA.same y4
    have k4 := y4 _ _ g3
    refine ⟨p3, p4, _, _, rfl, rfl, k4, g4, (by show 8 ≤ sizeLine; decide), fun p5 n5 => ?_⟩
    generalize h5 : upd H4 p5 _ = H5
    have g5 := upd_got h5
    have y5 := upd_stay h5 n5
    replace HA := HA.same y5
    -- _law_words = ['DividedByZero', 'TooLarge', 'TooHeavy', 'NotU
    refine ⟨(by show 8 ≤ sizeLine; decide), fun p6 n6 => ?_⟩
    generalize h6 : upd H5 p6 _ = H6
    have g6 := upd_got h6
    have y6 := upd_stay h6 n6
    replace HA := HA.same y6
    have S : Same H H6 := (((((y1.trans y2).trans y3).trans y4).trans y5).trans y6)
    have gs : H6 p5 = some (.lst (blsOfAnswers i)) := (y6 _ _ g5)
    have gw : H6 p6 = some (.lst wlsOfAnswers) := g6
    have fall : (blsOfAnswers i).all flatV = true := rfl
    refine ⟨_, rfl, .inl ⟨rfl, _, SqL.of gs⟩, p5, _, _, rfl, rfl, SqL.of gs, rfl, fall, rfl, _, rfl, ?_⟩
    rw [sOfAnswers_c i hi]
    by_cases hc : 23 ≤ i ∧ i < 31
    · obtain ⟨e1, e2, e3⟩ := sOfAnswers_i i hi hc.1 hc.2
      rw [if_pos hc]
      refine ite2 (fun _ => ⟨_, rfl, _, rfl, .inl ⟨rfl, _, SqL.of gs⟩, p5, _, _, i - 23, _, rfl, rfl, SqL.of gs, rfl, fall, e1, rfl, (fun m z hm hz => ?_), p6, _, _, _, rfl, rfl, SqL.of gw, atI_nat e3, ?_⟩) (fun z => absurd rfl z)
      · rw [e2 m hm] at hz
        cases hz
        rfl
      · have z := q _ S
        rw [if_pos hc] at z
        exact z
    · rw [if_neg hc]
      have z := q _ S
      rw [if_neg hc] at z
      exact ite2 (fun y => absurd y (by decide)) (fun _ => z)
end
end T01

namespace T01
open PySem PySem.Spec PyProof.Rows L2 SF SX
abbrev sWord : Stmt := top 50
abbrev sFields : Stmt := top 51
abbrev sOdd : Stmt := top 52
abbrev sNames : Stmt := top 53
section
variable {P : Program} {w : World} {K : PySem.W.Frag} {mg : Str → Option Value} {base : Heap} {cs bs : Nat → Addr} {H H' : Hp}
theorem Same.tr {H H1 H2 : Hp} (a : Same H H1) (b : Same H1 H2) : Same H H2 := fun x o e => b x o (a x o e)
def bsl (i : Nat) : List V := [V.bl (decide (bas i = 0)), V.bl (decide (bas i = 1)), V.bl (decide (bas i = 2))]
def wds (i : Nat) : List V := [V.str (if 0 ≤ i ∧ i < 15 then nm i else ""), V.str (if 15 ≤ i ∧ i < 23 then nm i else ""), V.str (if 23 ≤ i ∧ i < 31 then nm i else "")]
theorem bsl_c : ∀ i, i < 31 → (bsl i).countP (fun z => eqV z (.bl true)) = 1 := by decide +kernel
theorem wds_c : ∀ i, i < 31 → (wds i).countP (fun z => eqV z (.str "")) = 2 := by decide +kernel
theorem bsl_i : ∀ i, i < 31 → (bsl i)[bas i]? = some (V.bl true) ∧ (∀ m, m < bas i → (bsl i)[m]? = some (V.bl false)) ∧ (wds i)[bas i]? = some (.str (nm i)) := by decide +kernel
theorem bsl_e : ∀ i, i < 31 → PyData.eqv (.list [.bool (decide (bas i = 0)), .bool (decide (bas i = 1)), .bool (decide (bas i = 2))]) (.list [.bool (decide (bas i = 0)), .bool (decide (bas i = 1)), .bool (decide (bas i = 2))]) = true := by decide +kernel
theorem bsl_s : ∀ i, i < 31 → SeqAt.shaped (.list [.bool (decide (bas i = 0)), .bool (decide (bas i = 1)), .bool (decide (bas i = 2))]) = true := by decide +kernel

theorem scWord : FnScope ["_law_e", "_law_words", "_law_bases", "_law_own"] ["_law_e"] (defScope sWord) := ⟨rfl, rfl, rfl, by decide +kernel, rfl, by decide +kernel, by decide +kernel⟩
def spWord (cs : Nat → Addr) : Sp := fun vs H Q _ => ∃ (a : Addr) (i : Nat) (fs : List (Str × V)), vs = [.ref a] ∧ i < 31 ∧ ExA H a (cs i) fs ∧ ∀ H', Same H H' → Q (.str (nm i)) H'
theorem ok_word {f fA fB fC : Addr} {fd fdA fdB fdC : FuncData} (F : Fun K "_law_word" "_law_word" sWord f fd) (T : ErrT K mg cs bs)
    (FA : Fun K "_law_given" "_law_given" sGiven fA fdA) (bA : Binds K fdA ["_law_e"] []) (gA : mg "_law_given" = some (.ref fA)) (FB : Fun K "_law_of_names" "_law_of_names" sOfNames fB fdB) (bB : Binds K fdB ["_law_e"] []) (gB : mg "_law_of_names" = some (.ref fB))
    (FC : Fun K "_law_of_answers" "_law_of_answers" sOfAnswers fC fdC) (bC : Binds K fdC ["_law_e"] []) (gC : mg "_law_of_answers" = some (.ref fC)) : FnOk P w K mg base CX0 2 f fd ["_law_e"] (spWord cs) := by
  have GA : FnOk P w K mg base CX0 1 fA fdA ["_law_e"] (spGiven cs) := okGiven FA T
  have GB : FnOk P w K mg base CX0 1 fB fdB ["_law_e"] (spOfNames cs) := okOfNames FB T
  have GC : FnOk P w K mg base CX0 1 fC fdC ["_law_e"] (spOfAnswers cs) := okOfAnswers FC T
  refine F.ok scWord (fun vs H Q E h => ?_) (fun cdv A outer s H vs Q E hr h => ?_)
  · obtain ⟨a, i, fs, rfl, _⟩ := h
    rfl
  · obtain ⟨a, i, fs, rfl, hi, HA, q⟩ := h
    refine ⟨_, (pss_cons (ps_set (i := 1) scWord.nd rfl (.inl rfl) (pe_lst (pa_cons (pe_call GA hr (by rfl) gA FA.kp bA .nil pass0 (pa_cons (pv 0) pa_nil)) (pa_cons (pe_call GB hr (by rfl) gB FB.kp bB .nil pass0 (pa_cons (pv 0) pa_nil)) (pa_cons (pe_call GC hr (by rfl) gC FC.kp bC .nil pass0 (pa_cons (pv 0) pa_nil)) pa_nil)))))
      (pss_cons (ps_set (i := 2) scWord.nd rfl (.inl rfl) (pe_lst (pa_cons (pe_callB call_isX (by rfl) T.isi (by decide +kernel) (pa_cons (pv 0) (pa_cons (pe_glob (v := .ref (bs 0)) (u := .ref (bs 0)) (by rfl) (T.gb 0 (by decide)) rfl) pa_nil))) (pa_cons (pe_callB call_isX (by rfl) T.isi (by decide +kernel) (pa_cons (pv 0) (pa_cons (pe_glob (v := .ref (bs 1)) (u := .ref (bs 1)) (by rfl) (T.gb 1 (by decide)) rfl) pa_nil))) (pa_cons (pe_callB call_isX (by rfl) T.isi (by decide +kernel) (pa_cons (pv 0) (pa_cons (pe_glob (v := .ref (bs 2)) (u := .ref (bs 2)) (by rfl) (T.gb 2 (by decide)) rfl) pa_nil))) pa_nil)))))
      (pss_cons (ps_set (i := 3) scWord.nd rfl (.inl rfl) (pe_lst (pa_cons (pe_callB call_isX (by rfl) T.isi (by decide +kernel) (pa_cons (pv 0) (pa_cons (pe_bltn (v := .ty "ValueError") (u := .type "ValueError") (by rfl) T.val (by decide +kernel) rfl) pa_nil))) (pa_cons (pe_callB call_isX (by rfl) T.isi (by decide +kernel) (pa_cons (pv 0) (pa_cons (pe_bltn (v := .ty "LookupError") (u := .type "LookupError") (by rfl) T.loo (by decide +kernel) rfl) pa_nil))) (pa_cons (pe_callB call_isX (by rfl) T.isi (by decide +kernel) (pa_cons (pv 0) (pa_cons (pe_bltn (v := .ty "ArithmeticError") (u := .type "ArithmeticError") (by rfl) T.ari (by decide +kernel) rfl) pa_nil))) pa_nil)))))
      (pss_cons (ps_if (PW.pt (pw_or (pt_cmpR (op_neD hr.units) (pv 2) (pv 3) (nomark _)) (pw_or1 (pt_cmpR op_ne (pe_bm PySem.F.plainAttrs_list PySem.F.slot_list_count PySem.F.type_list_count mt_countF (pv 2) (pa_cons pe_bl pa_nil)) pe_int (nomark _))))) (pss_one (ps_ret pe_str)) pss_nil)
      (pss_one (ps_ret (pe_ifExp (pt_cmpR op_eq (pe_bm PySem.F.plainAttrs_list PySem.F.slot_list_count PySem.F.type_list_count mt_countF (pv 1) (pa_cons pe_str pa_nil)) pe_int (nomark _)) (pe_ix ix_list (pv 1) (pe_bm PySem.F.plainAttrs_list PySem.F.slot_list_index PySem.F.type_list_index mt_index (pv 2) (pa_cons pe_bl pa_nil)) (fun _ _ => rfl)) pe_str))))))), ?_⟩
    refine ⟨_, rfl, a, i, fs, rfl, hi, HA, fun H1 y1 => ?_⟩
    replace HA := HA.same y1
    refine ⟨_, rfl, a, i, fs, rfl, hi, HA, fun H2 y2 => ?_⟩
    replace HA := HA.same y2
    refine ⟨_, rfl, a, i, fs, rfl, hi, HA, fun H3 y3 => ?_⟩
    replace HA := HA.same y3
    refine ⟨(by show 3 ≤ sizeLine; decide), fun p4 n4 => ?_⟩
    generalize h4 : upd H3 p4 _ = H4
    have g4 : H4 p4 = some (.lst (wds i)) := upd_got h4
    have y4 := upd_stay h4 n4
    replace HA := HA.same y4
    refine ⟨_, rfl, a, cs i, fs, _, _, _, rfl, .own _, HA, T.ex i hi, T.kitB i 0 hi (by decide), _, rfl, a, cs i, fs, _, _, _, rfl, .own _, HA, T.ex i hi, T.kitB i 1 hi (by decide), _, rfl, a, cs i, fs, _, _, _, rfl, .own _, HA, T.ex i hi, T.kitB i 2 hi (by decide), (by show 3 ≤ sizeLine; decide), fun p5 n5 => ?_⟩
    generalize h5 : upd H4 p5 _ = H5
    have g5 : H5 p5 = some (.lst (bsl i)) := upd_got h5
    have y5 := upd_stay h5 n5
    replace HA := HA.same y5
    refine ⟨_, rfl, a, cs i, fs, _, _, _, rfl, .ty _, HA, T.ex i hi, T.kitT i 0 hi (by decide), _, rfl, a, cs i, fs, _, _, _, rfl, .ty _, HA, T.ex i hi, T.kitT i 1 hi (by decide), _, rfl, a, cs i, fs, _, _, _, rfl, .ty _, HA, T.ex i hi, T.kitT i 2 hi (by decide), (by show 3 ≤ sizeLine; decide), fun p6 n6 => ?_⟩
    generalize h6 : upd H5 p6 _ = H6
    have g6 : H6 p6 = some (.lst (bsl i)) := upd_got h6
    have y6 := upd_stay h6 n6
    have gb : H6 p5 = some (.lst (bsl i)) := y6 _ _ g5
    have gw : H6 p4 = some (.lst (wds i)) := y6 _ _ (y5 _ _ g4)
    have S : Same H H6 := Same.tr y1 (Same.tr y2 (Same.tr y3 (Same.tr y4 (Same.tr y5 y6))))
    have fb : (bsl i).all flatV = true := rfl
    have fw : (wds i).all flatV = true := rfl
    obtain ⟨e1, e2, e3⟩ := bsl_i i hi
    have dp : Dp K H6 (.ref p5) (.list [.bool (decide (bas i = 0)), .bool (decide (bas i = 1)), .bool (decide (bas i = 2))]) := .lst (SqL.of gb) (.cons (.bl _) (.cons (.bl _) (.cons (.bl _) .nil)))
    have dq : Dp K H6 (.ref p6) (.list [.bool (decide (bas i = 0)), .bool (decide (bas i = 1)), .bool (decide (bas i = 2))]) := .lst (SqL.of g6) (.cons (.bl _) (.cons (.bl _) (.cons (.bl _) .nil)))
    refine ⟨_, rfl, _, rfl, _, _, dp, dq, bsl_s i hi, bsl_s i hi, _, rfl, ?_⟩
    rw [bsl_e i hi]
    refine ite2 (fun z => absurd z (by decide)) (fun _ => ?_)
    refine ⟨_, rfl, .inl ⟨rfl, _, SqL.of gb⟩, p5, _, _, rfl, rfl, SqL.of gb, rfl, fb, rfl, _, rfl, ?_⟩
    rw [bsl_c i hi]
    refine ite2 (fun z => absurd z (by decide)) (fun _ => ?_)
    refine ⟨_, rfl, .inl ⟨rfl, _, SqL.of gw⟩, p4, _, _, rfl, rfl, SqL.of gw, rfl, fw, rfl, _, rfl, ?_⟩
    rw [wds_c i hi]
    refine ite2 (fun _ => ?_) (fun z => absurd rfl z)
    refine ⟨_, rfl, _, rfl, .inl ⟨rfl, _, SqL.of gb⟩, p5, _, _, bas i, _, rfl, rfl, SqL.of gb, rfl, fb, e1, rfl, (fun m z hm hz => ?_), p4, _, _, _, rfl, rfl, SqL.of gw, atI_nat e3, ?_⟩
    · rw [e2 m hm] at hz
      cases hz
      rfl
    · exact q _ S

theorem scFields : FnScope ["_law_e", "_law_word_here"] ["_law_e", "_law_word_here"] (defScope sFields) := ⟨rfl, rfl, rfl, by decide +kernel, rfl, by decide +kernel, by decide +kernel⟩
/-- the fields that are asked, in the order of the asking -/
def spFields (cs : Nat → Addr) : Sp := fun vs H Q _ => ∃ (a : Addr) (i : Nat) (fs : List (Str × V)) (ys : List V), vs = [.ref a, .str (nm i)] ∧ i < 31 ∧ ExA H a (cs i) fs ∧ (fl i).map (fun f => fs.lookup f) = ys.map some ∧ ∀ p H', Same H H' → H' p = some (.tup ys) → Q (.ref p) H'
theorem ok_fields {f : Addr} {fd : FuncData} (F : Fun K "_law_fields" "_law_fields" sFields f fd) (T : ErrT K mg cs bs) : FnOk P w K mg base CX0 1 f fd ["_law_e", "_law_word_here"] (spFields cs) := by
  refine F.ok scFields (fun vs H Q E h => ?_) (fun cdv A outer s H vs Q E hr h => ?_)
  · obtain ⟨a, i, fs, ys, rfl, _⟩ := h
    rfl
  · obtain ⟨a, i, fs, ys, rfl, hi, HA, hf, q⟩ := h
    refine ⟨_, (pss_cons (ps_if (pt_cmpR op_in_seq (pv 1) (pe_lst (pa_cons pe_str (pa_cons pe_str pa_nil))) rfl) (pss_one (ps_ret (pe_tup (pa_cons (pe_fldX (pv 0)) pa_nil)))) pss_nil)
      (pss_cons (ps_if (pt_cmpR op_eq (pv 1) pe_str (nomark _)) (pss_one (ps_ret (pe_tup (pa_cons (pe_fldX (pv 0)) pa_nil)))) pss_nil)
      (pss_cons (ps_if (pt_cmpR op_in_seq (pv 1) (pe_lst (pa_cons pe_str (pa_cons pe_str pa_nil))) rfl) (pss_one (ps_ret (pe_tup (pa_cons (pe_fldX (pv 0)) pa_nil)))) pss_nil)
      (pss_cons (ps_if (pt_cmpR op_eq (pv 1) pe_str (nomark _)) (pss_one (ps_ret (pe_tup (pa_cons (pe_fldX (pv 0)) (pa_cons (pe_fldX (pv 0)) pa_nil))))) pss_nil)
      (pss_cons (ps_if (pt_cmpR op_eq (pv 1) pe_str (nomark _)) (pss_one (ps_ret (pe_tup (pa_cons (pe_fldX (pv 0)) (pa_cons (pe_fldX (pv 0)) pa_nil))))) pss_nil)
      (pss_one (ps_ret (pe_ifExp (pt_cmpR op_in_seq (pv 1) (pe_lst (pa_cons pe_str (pa_cons pe_str (pa_cons pe_str (pa_cons pe_str pa_nil))))) rfl) (pe_tup pa_nil) (pe_tup (pa_cons (pe_fldX (pv 0)) pa_nil)))))))))), ?_⟩
    have fall : ∀ xs : List Str, (xs.map V.str).all flatV = true := fun xs => by simp [flatV]
    -- one field
    have one : ∀ (f : Str) (H1 : Hp), f ∈ fnames → fl i = [f] → Same H H1 → ∀ (x : V → Hp → Prop), (∀ v, ys = [v] → fs.lookup f = some v → x v H1) → ∃ b D gs v, V.ref a = .ref b ∧ ExA H1 b D gs ∧ XfC K D ∧ PySem.W.findIn K (.ref D) f = some none ∧ gs.lookup f = some v ∧ x v H1 := fun f H1 hm e s x hx => by
      rw [e] at hf
      obtain ⟨v, rfl, l⟩ : ∃ v, ys = [v] ∧ fs.lookup f = some v := by
        cases ys with
        | nil => cases hf
        | cons v ys =>
          cases ys with
          | nil => exact ⟨v, rfl, (List.cons.inj hf).1⟩
          | cons _ _ => simp at hf
      exact ⟨a, cs i, fs, v, rfl, HA.same s, T.xf i hi, T.no i hi f hm, l, hx v rfl l⟩
    have two : ∀ (f g : Str), fl i = [f, g] → ∃ u v, ys = [u, v] ∧ fs.lookup f = some u ∧ fs.lookup g = some v := fun f g e => by
      rw [e] at hf
      cases ys with
      | nil => simp at hf
      | cons u ys =>
        cases ys with
        | nil => simp at hf
        | cons v ys =>
          cases ys with
          | nil => exact ⟨u, v, rfl, (List.cons.inj hf).1, (List.cons.inj (List.cons.inj hf).2).1⟩
          | cons _ _ => simp at hf
    have ret : ∀ (H1 : Hp), Same H H1 → ∀ p, H1 p = none → Q (.ref p) (upd H1 p (.tup ys)) := fun H1 s p hp => q p _ (fun b o e => by rw [upd_ne (ne_of_none (s b o e) hp)]; exact s b o e) upd_same
    refine ⟨_, rfl, (by show 2 ≤ sizeLine; decide), fun p1 n1 => ⟨p1, _, rfl, .inl (SqL.of upd_same), rfl, rfl, _, rfl, ?_⟩⟩
    have s1 : Same H (upd H p1 _) := upd_stay (o := .lst [.str "TextError", .str "NoWay"]) rfl n1
    refine ite2 (fun hc => ?_) (fun hc1 => ?_)
    · have e := (by decide +kernel : ∀ i, i < 31 → inV (.str (nm i)) [.str "TextError", .str "NoWay"] = true → fl i = ([("place" : Str)] : List Str)) i hi hc
      refine ⟨_, rfl, one _ _ (by decide) e s1 _ fun v ev _ => ⟨(by show 1 ≤ sizeLine; decide), fun p np => ?_⟩⟩
      have z := ret _ s1 p np
      rw [ev] at z
      exact z
    refine ⟨_, rfl, rfl, _, rfl, ?_⟩
    refine ite2 (fun hc => ?_) (fun hc2 => ?_)
    · have e := (by decide +kernel : ∀ i, i < 31 → decide (V.str (nm i) = V.str "InUse") = true → fl i = ([("user" : Str)] : List Str)) i hi hc
      refine ⟨_, rfl, one _ _ (by decide) e s1 _ fun v ev _ => ⟨(by show 1 ≤ sizeLine; decide), fun p np => ?_⟩⟩
      have z := ret _ s1 p np
      rw [ev] at z
      exact z
    generalize h1 : upd H p1 _ = H1 at s1
    refine ⟨_, rfl, (by show 2 ≤ sizeLine; decide), fun p2 n2 => ⟨p2, _, rfl, .inl (SqL.of upd_same), rfl, rfl, _, rfl, ?_⟩⟩
    have s2 : Same H (upd H1 p2 _) := Same.tr s1 (upd_stay (o := .lst [.str "TooLarge", .str "TooHeavy"]) rfl n2)
    refine ite2 (fun hc => ?_) (fun hc3 => ?_)
    · have e := (by decide +kernel : ∀ i, i < 31 → inV (.str (nm i)) [.str "TooLarge", .str "TooHeavy"] = true → fl i = ([("limit" : Str)] : List Str)) i hi hc
      refine ⟨_, rfl, one _ _ (by decide) e s2 _ fun v ev _ => ⟨(by show 1 ≤ sizeLine; decide), fun p np => ?_⟩⟩
      have z := ret _ s2 p np
      rw [ev] at z
      exact z
    refine ⟨_, rfl, rfl, _, rfl, ?_⟩
    refine ite2 (fun hc => ?_) (fun hc4 => ?_)
    · have e := (by decide +kernel : ∀ i, i < 31 → decide (V.str (nm i) = V.str "NotUndoable") = true → fl i = ([("reason" : Str), "place"] : List Str)) i hi hc
      obtain ⟨u, v, ev, l1, l2⟩ := two _ _ e
      refine ⟨_, rfl, a, cs i, fs, u, rfl, HA.same s2, T.xf i hi, T.no i hi _ (by decide), l1, _, rfl, a, cs i, fs, v, rfl, HA.same s2, T.xf i hi, T.no i hi _ (by decide), l2, (by show 2 ≤ sizeLine; decide), fun p np => ?_⟩
      have z := ret _ s2 p np
      rw [ev] at z
      exact z
    refine ⟨_, rfl, rfl, _, rfl, ?_⟩
    refine ite2 (fun hc => ?_) (fun hc5 => ?_)
    · have e := (by decide +kernel : ∀ i, i < 31 → decide (V.str (nm i) = V.str "Broken") = true → fl i = ([("index" : Str), "shown"] : List Str)) i hi hc
      obtain ⟨u, v, ev, l1, l2⟩ := two _ _ e
      refine ⟨_, rfl, a, cs i, fs, u, rfl, HA.same s2, T.xf i hi, T.no i hi _ (by decide), l1, _, rfl, a, cs i, fs, v, rfl, HA.same s2, T.xf i hi, T.no i hi _ (by decide), l2, (by show 2 ≤ sizeLine; decide), fun p np => ?_⟩
      have z := ret _ s2 p np
      rw [ev] at z
      exact z
    generalize h2 : upd H1 p2 _ = H2 at s2
    refine ⟨_, rfl, (by show 4 ≤ sizeLine; decide), fun p3 n3 => ⟨p3, _, rfl, .inl (SqL.of upd_same), rfl, rfl, _, rfl, ?_⟩⟩
    have s3 : Same H (upd H2 p3 _) := Same.tr s2 (upd_stay (o := .lst [.str "", .str "DividedByZero", .str "Ended", .str "NothingToUndo"]) rfl n3)
    refine ite2 (fun hc => ?_) (fun hc6 => ?_)
    · have e := (by decide +kernel : ∀ i, i < 31 → inV (.str (nm i)) [.str "", .str "DividedByZero", .str "Ended", .str "NothingToUndo"] = true → fl i = ([] : List Str)) i hi hc
      rw [e] at hf
      obtain rfl : ys = [] := by
        cases ys with
        | nil => rfl
        | cons _ _ => simp at hf
      exact ⟨(by show 0 ≤ sizeLine; decide), fun p np => ret _ s3 p np⟩
    · have e := (((((((by decide +kernel : ∀ i, i < 31 → inV (.str (nm i)) [.str "TextError", .str "NoWay"] = true ∨ decide (V.str (nm i) = V.str "InUse") = true ∨ inV (.str (nm i)) [.str "TooLarge", .str "TooHeavy"] = true ∨ decide (V.str (nm i) = V.str "NotUndoable") = true ∨
        decide (V.str (nm i) = V.str "Broken") = true ∨ inV (.str (nm i)) [.str "", .str "DividedByZero", .str "Ended", .str "NothingToUndo"] = true ∨ fl i = ([("given" : Str)] : List Str)) i hi).resolve_left hc1).resolve_left hc2).resolve_left hc3).resolve_left hc4).resolve_left hc5).resolve_left hc6
      refine ⟨_, rfl, one _ _ (by decide) e s3 _ fun v ev _ => ⟨(by show 1 ≤ sizeLine; decide), fun p np => ?_⟩⟩
      have z := ret _ s3 p np
      rw [ev] at z
      exact z

end
end T01

namespace T01
open PySem PySem.Spec PyProof.Rows L2 SF SX
/-- all that is tracked but the thing at a -/
def hide (a : Addr) (H : Hp) : Hp := fun b => if b = a then none else H b
section
variable {P : Program} {w : World} {K : PySem.W.Frag} {mg : Str → Option Value} {base : Heap} {cs bs : Nat → Addr} {H H' : Hp} {a p : Addr} {o : HO}
theorem hide_some (n : p ≠ a) (e : H p = some o) : hide a H p = some o := by unfold hide; rw [if_neg n]; exact e
theorem hide_le {b : Addr} (e : hide a H b = some o) : H b = some o := by
  unfold hide at e
  split at e
  · cases e
  · exact e
theorem But.hide (k : But a H H') : ∀ b o, hide a H b = some o → T01.hide a H' b = some o := fun b o e => by
  by_cases h : b = a
  · subst h
    unfold T01.hide at e
    rw [if_pos rfl] at e
    cases e
  · exact hide_some h (k b o h (hide_le e))
theorem SdAll.get : ∀ {vs : List V} {ds : List PyData} {j : Nat}, SdAll H vs ds → j < ds.length → ∃ v d, vs[j]? = some v ∧ ds[j]? = some d ∧ Sd H v d
  | _, _, _, .nil, h => absurd h (Nat.not_lt_zero _)
  | _, _, 0, .cons a b, _ => ⟨_, _, rfl, rfl, a⟩
  | _, _, j + 1, .cons a b, h => by
    have z := SdAll.get (j := j) b (Nat.lt_of_succ_lt_succ h)
    exact z
/-- the things that errors are made with -/
def menuD : List PyData := [.none, .int 0, .bool true, .str "x", .tuple [], .list [.int 1], .dict [], .int (-1), .int 1000000000000000000000000000000000000000, .tuple [.str "a", .none], .str "InvalidText", .list [.list [], .dict [(.str "k", .int 2)]], .bool false, .int 1]

theorem scOdd : FnScope ["_law_source_here", "_law_menu"] ["_law_source_here"] (defScope sOdd) := ⟨rfl, rfl, rfl, by decide +kernel, rfl, by decide +kernel, by decide +kernel⟩
def spOdd : Sp := fun vs H Q _ => ∃ a : Addr, vs = [.ref a] ∧ SrcAt H a ∧ ∀ v d H', d ∈ menuD → Sd (hide a H') v d → SrcAt H' a → But a H H' → Q v H'
theorem ok_odd {f fD : Addr} {fd fdD : FuncData} (F : Fun K "_law_odd" "_law_odd" sOdd f fd) (FD : Fun K "_law_draw" "_law_draw" sDraw fD fdD) (bD : Binds K fdD ["_law_source_here", "_law_many"] []) (gD : mg "_law_draw" = some (.ref fD)) (T : Blt mg) : FnOk P w K mg base CX0 2 f fd ["_law_source_here"] spOdd := by
  have GD : FnOk P w K mg base CX0 1 fD fdD ["_law_source_here", "_law_many"] spDraw := ok_draw FD T
  refine F.ok scOdd (fun vs H Q E h => ?_) (fun cdv A outer s H vs Q E hr h => ?_)
  · obtain ⟨a, rfl, _⟩ := h
    rfl
  · obtain ⟨a, rfl, hs, q⟩ := h
    refine ⟨_, (pss_cons (ps_set (i := 1) scOdd.nd rfl (.inl rfl) (pe_lstS (pa_cons pe_non (pa_cons pe_int (pa_cons pe_bl (pa_cons pe_str (pa_cons (pe_tup pa_nil) (pa_cons (pe_lstS (pa_cons pe_int pa_nil)) (pa_cons pe_dnewK (pa_cons (pe_un un_neg pe_int) (pa_cons (pe_op op_pow pe_int pe_int) (pa_cons (pe_tup (pa_cons pe_str (pa_cons pe_non pa_nil))) (pa_cons pe_str (pa_cons (pe_lstS (pa_cons (pe_lstS pa_nil) (pa_cons (pe_disp (pps_cons pe_str pe_int pps_nil) (by rfl) (by rfl) (fun z => by cases z) (by decide)) pa_nil))) (pa_cons pe_bl (pa_cons pe_int pa_nil))))))))))))))))
      (pss_one (ps_ret (pe_ix ix_list (pv 1) (pe_call GD hr (by rfl) gD FD.kp bD .nil pass0 (pa_cons (pv 0) (pa_cons pe_int pa_nil))) (fun _ _ => rfl))))), ?_⟩
    refine ⟨(by show 0 ≤ sizeLine; decide), fun p1 n1 => ?_⟩
    generalize h1 : upd H p1 _ = H1
    have g1 : H1 p1 = some (.tup []) := upd_got h1
    have y1 := upd_stay h1 n1
    refine ⟨(by show 1 ≤ sizeLine; decide), fun p2 n2 z2 => ?_⟩
    generalize h2 : upd H1 p2 _ = H2
    have g2 : H2 p2 = some (.lst [.int 1]) := upd_got h2
    have y2 := upd_stay h2 n2
    intro p3 n3
    generalize h3 : upd H2 p3 _ = H3
    have g3 : H3 p3 = some (.dK []) := upd_got h3
    have y3 := upd_stay h3 n3
    refine ⟨1, rfl, ?_⟩
    refine ⟨10, 39, rfl, rfl, ⟨by decide, by decide, by decide⟩, ?_⟩
    refine ⟨(by show 2 ≤ sizeLine; decide), fun p4 n4 => ?_⟩
    generalize h4 : upd H3 p4 _ = H4
    have g4 : H4 p4 = some (.tup [.str "a", .non]) := upd_got h4
    have y4 := upd_stay h4 n4
    refine ⟨(by show 0 ≤ sizeLine; decide), fun p5 n5 z5 => ?_⟩
    generalize h5 : upd H4 p5 _ = H5
    have g5 : H5 p5 = some (.lst []) := upd_got h5
    have y5 := upd_stay h5 n5
    intro p6 n6
    refine ⟨upd_same, [(.inr "k", .int 2)], rfl, (by decide), ?_⟩
    rw [upd_upd]
    generalize h6 : upd H5 p6 _ = H6
    have g6 : H6 p6 = some (.dK [(.inr "k", .int 2)]) := upd_got h6
    have y6 := upd_stay h6 n6
    refine ⟨(by show 2 ≤ sizeLine; decide), fun p7 n7 z7 => ?_⟩
    generalize h7 : upd H6 p7 _ = H7
    have g7 : H7 p7 = some (.lst [.ref p5, .ref p6]) := upd_got h7
    have y7 := upd_stay h7 n7
    refine ⟨(by show 14 ≤ sizeLine; decide), fun p8 n8 z8 => ?_⟩
    generalize h8 : upd H7 p8 _ = H8
    have g8 := upd_got h8
    have y8 := upd_stay h8 n8
    have S7 : Same H H7 := Same.tr y1 (Same.tr y2 (Same.tr y3 (Same.tr y4 (Same.tr y5 (Same.tr y6 y7)))))
    have S8 : Same H H8 := Same.tr S7 y8
    obtain ⟨x0, x1, x2, ea⟩ := id hs
    have ne : ∀ (p : Addr) (H0 : Hp), Same H H0 → H0 p = none → p ≠ a := fun p H0 s n z => by
      rw [z, s _ _ ea] at n
      cases n
    have m1 := hide_some (a := a) (ne _ _ (Same.refl H) n1) (y8 _ _ (y7 _ _ (y6 _ _ (y5 _ _ (y4 _ _ (y3 _ _ (y2 _ _ g1)))))))
    have m2 := hide_some (a := a) (ne _ _ y1 n2) (y8 _ _ (y7 _ _ (y6 _ _ (y5 _ _ (y4 _ _ (y3 _ _ g2))))))
    have m3 := hide_some (a := a) (ne _ _ (Same.tr y1 y2) n3) (y8 _ _ (y7 _ _ (y6 _ _ (y5 _ _ (y4 _ _ g3)))))
    have m4 := hide_some (a := a) (ne _ _ (Same.tr y1 (Same.tr y2 y3)) n4) (y8 _ _ (y7 _ _ (y6 _ _ (y5 _ _ g4))))
    have m5 := hide_some (a := a) (ne _ _ (Same.tr y1 (Same.tr y2 (Same.tr y3 y4))) n5) (y8 _ _ (y7 _ _ (y6 _ _ g5)))
    have m6 := hide_some (a := a) (ne _ _ (Same.tr y1 (Same.tr y2 (Same.tr y3 (Same.tr y4 y5)))) n6) (y8 _ _ (y7 _ _ g6))
    have m7 := hide_some (a := a) (ne _ _ (Same.tr y1 (Same.tr y2 (Same.tr y3 (Same.tr y4 (Same.tr y5 y6))))) n7) (y8 _ _ g7)
    have all : SdAll (hide a H8) [.non, .int 0, .bl true, .str "x", .ref p1, .ref p2, .ref p3, .int (-1), .int (10 ^ (39 : Int).toNat), .ref p4, .str "InvalidText", .ref p7, .bl false, .int 1] menuD :=
      .cons .non (.cons (.int 0) (.cons (.bl true) (.cons (.str _) (.cons (.tup m1 .nil) (.cons (.lst z2 m2 (.cons (.int 1) .nil)) (.cons (.dct m3 .nil) (.cons (.int _) (.cons (.int _) (.cons (.tup m4 (.cons (.str _) (.cons .non .nil))) (.cons (.str _)
        (.cons (.lst z7 m7 (.cons (.lst z5 m5 .nil) (.cons (.dct m6 (.cons (k := .inr "k") (.int 2) .nil)) .nil))) (.cons (.bl false) (.cons (.int 1) .nil)))))))))))))
    refine ⟨_, rfl, _, rfl, a, 14, rfl, (by decide), (by decide), ?_, fun d H9 d0 d1 s9 k9 => ?_⟩
    · exact ⟨x0, x1, x2, S8 _ _ ea⟩
    · have n8a : p8 ≠ a := ne _ _ S7 n8
      obtain ⟨v, e, hv, he, hd⟩ := SdAll.get (j := d.toNat) all (by show d.toNat < 14; omega)
      have ed : ((d.toNat : Nat) : Int) = d := Int.toNat_of_nonneg d0
      have at_ := atI_nat hv
      rw [ed] at at_
      refine ⟨p8, _, _, v, rfl, rfl, SqL.of (k9 _ _ n8a g8), at_, ?_⟩
      exact q v e H9 (List.mem_of_getElem? he) (hd.same k9.hide) s9 (fun b o nb eb => k9 b o nb (S8 b o eb))

theorem scNames : FnScope ["_law_found"] [] (defScope sNames) := ⟨rfl, rfl, rfl, by decide +kernel, rfl, by decide +kernel, by decide +kernel⟩
def spNames : Sp := fun vs H Q _ => vs = [] ∧ ∀ p H', Same H H' → H' p = some (.lst (nms.map V.str)) → Q (.ref p) H'
theorem ok_names {f : Addr} {fd : FuncData} (F : Fun K "_law_names_of_classes" "_law_names_of_classes" sNames f fd) : FnOk P w K mg base CX0 1 f fd [] spNames := by
  refine F.ok scNames (fun vs H Q E h => ?_) (fun cdv A outer s H vs Q E hr h => ?_)
  · obtain ⟨rfl, _⟩ := h
    rfl
  · obtain ⟨rfl, q⟩ := h
    refine ⟨_, (pss_cons (ps_set (i := 0) scNames.nd rfl (.inl rfl) (pe_lst (pa_cons pe_str (pa_cons pe_str (pa_cons pe_str (pa_cons pe_str (pa_cons pe_str (pa_cons pe_str pa_nil))))))))
      (pss_cons (ps_set (i := 0) scNames.nd rfl (.inl rfl) (pe_op op_cat (pv 0) (pe_lst (pa_cons pe_str (pa_cons pe_str (pa_cons pe_str (pa_cons pe_str (pa_cons pe_str (pa_cons pe_str pa_nil)))))))))
      (pss_cons (ps_set (i := 0) scNames.nd rfl (.inl rfl) (pe_op op_cat (pv 0) (pe_lst (pa_cons pe_str (pa_cons pe_str (pa_cons pe_str (pa_cons pe_str (pa_cons pe_str (pa_cons pe_str (pa_cons pe_str (pa_cons pe_str pa_nil)))))))))))
      (pss_cons (ps_set (i := 0) scNames.nd rfl (.inl rfl) (pe_op op_cat (pv 0) (pe_lst (pa_cons pe_str (pa_cons pe_str (pa_cons pe_str (pa_cons pe_str (pa_cons pe_str (pa_cons pe_str (pa_cons pe_str pa_nil))))))))))
      (pss_one (ps_ret (pe_op op_cat (pv 0) (pe_lst (pa_cons pe_str (pa_cons pe_str (pa_cons pe_str (pa_cons pe_str pa_nil)))))))))))), ?_⟩
    refine ⟨(by show 6 ≤ sizeLine; decide), fun p1 n1 => ?_⟩
    generalize h1 : upd H p1 _ = H1
    have g1 := upd_got h1
    have y1 := upd_stay h1 n1

    refine ⟨_, rfl, (by show 6 ≤ sizeLine; decide), fun p2 n2 => ?_⟩
    generalize h2 : upd H1 p2 _ = H2
    have g2 := upd_got h2
    have y2 := upd_stay h2 n2
    refine ⟨p1, p2, _, _, rfl, rfl, y2 _ _ g1, g2, (by show 12 ≤ sizeLine; decide), fun p3 n3 => ?_⟩
    generalize h3 : upd H2 p3 _ = H3
    have g3 := upd_got h3
    have y3 := upd_stay h3 n3
    refine ⟨_, rfl, (by show 8 ≤ sizeLine; decide), fun p4 n4 => ?_⟩
    generalize h4 : upd H3 p4 _ = H4
    have g4 := upd_got h4
    have y4 := upd_stay h4 n4
    refine ⟨p3, p4, _, _, rfl, rfl, y4 _ _ g3, g4, (by show 20 ≤ sizeLine; decide), fun p5 n5 => ?_⟩
    generalize h5 : upd H4 p5 _ = H5
    have g5 := upd_got h5
    have y5 := upd_stay h5 n5
    refine ⟨_, rfl, (by show 7 ≤ sizeLine; decide), fun p6 n6 => ?_⟩
    generalize h6 : upd H5 p6 _ = H6
    have g6 := upd_got h6
    have y6 := upd_stay h6 n6
    refine ⟨p5, p6, _, _, rfl, rfl, y6 _ _ g5, g6, (by show 27 ≤ sizeLine; decide), fun p7 n7 => ?_⟩
    generalize h7 : upd H6 p7 _ = H7
    have g7 := upd_got h7
    have y7 := upd_stay h7 n7
    refine ⟨_, rfl, (by show 4 ≤ sizeLine; decide), fun p8 n8 => ?_⟩
    generalize h8 : upd H7 p8 _ = H8
    have g8 := upd_got h8
    have y8 := upd_stay h8 n8
    refine ⟨p7, p8, _, _, rfl, rfl, y8 _ _ g7, g8, (by show 31 ≤ sizeLine; decide), fun p9 n9 => ?_⟩
    exact q _ _ (Same.tr (Same.tr (Same.tr (Same.tr (Same.tr (Same.tr (Same.tr (Same.tr y1 y2) y3) y4) y5) y6) y7) y8) (upd_stay rfl n9)) upd_same
end
end T01

namespace SX
open PySem PySem.Spec PyProof.Rows L2 SF
/-- how a def's arguments bind where keywords are written -/
theorem kbn_kw {K : PySem.W.Frag} {x qual : Str} {st : Stmt} {f : Addr} {fd : FuncData} {ps : List Str} (F : Fun K x qual st f fd) (n : Nat) (ks : List Str) (g : List Value → List Value → List Value) (gV : List V → List V → List V)
    (hrel : ∀ {vs : List V} {us : List Value} {zs : List V} {ws : List Value}, Vals vs us → Vals zs ws → Vals (gV vs zs) (g us ws))
    (h : ∀ (kV doc pm : Value) (an : Option Addr) (cdv ct : Value) (us ws : List Value), us.length = n → ws.length = ks.length → bindArgs (PySem.W.fnOf x qual (defArgs st) (defBody st) (defScope st) .none kV doc pm an cdv ct) ⟨us, ks.zip ws⟩ = pure (ps.zip (g us ws))) : KBn K fd ps n ks g gV := by
  obtain ⟨oc, od, kV, doc, pm, an, cdv, ct, osl, rfl, lk, hcd⟩ := F.ex
  exact ⟨fun s us ws X l1 l2 => BindsTo.of_eq (h kV doc pm an cdv ct us ws l1 l2), fun a b => hrel a b⟩
/-- self, then the keywords as they stand -/
def g1 {α : Type} (us ws : List α) : List α := us ++ ws
/-- self, then two keywords in the other order -/
def g2 {α : Type} (us ws : List α) : List α := match ws with
  | [b, t] => us ++ [t, b]
  | _ => us
theorem rel_g1 {vs : List V} {us : List Value} {zs : List V} {ws : List Value} (a : Vals vs us) (c : Vals zs ws) : Vals (g1 vs zs) (g1 us ws) := a.append c
theorem rel_g2 {vs : List V} {us : List Value} {zs : List V} {ws : List Value} (a : Vals vs us) (c : Vals zs ws) : Vals (g2 vs zs) (g2 us ws) := by
  cases c with
  | nil => exact a
  | cons r c1 =>
    cases c1 with
    | nil => exact a
    | cons r2 c2 =>
      cases c2 with
      | nil => exact a.append (.cons r2 (.cons r .nil))
      | cons _ _ => exact a
end SX
namespace T01
open PySem PySem.Spec PyProof.Rows L2 SF SX
def spI1 (C : Addr) (f : Str) : Sp := fun vs H Q _ => ∃ (p : Addr) (y : V), vs = [.ref p, y] ∧ H p = some (exo p C none) ∧ ∀ dx, H dx = none → dx ≠ p → Q .non (upd (upd H dx (exd dx [(f, y)])) p (exo p C (some dx)))
def spI2 (C : Addr) (f g : Str) : Sp := fun vs H Q _ => ∃ (p : Addr) (y z : V), vs = [.ref p, y, z] ∧ H p = some (exo p C none) ∧ ∀ dx, H dx = none → dx ≠ p → Q .non (upd (upd (upd H dx (exd dx [(f, y)])) p (exo p C (some dx))) dx (exd dx [(g, z), (f, y)]))
/-- a class whose __init__ keeps its promise -/
structure ClsM (P : Program) (w : World) (K : PySem.W.Frag) (mg : Str → Option Value) (base : Heap) (C fI : Addr) (fd : FuncData) (ps : List Str) (sp : Sp) : Prop where
  T : ExK K C
  iC : PySem.W.findIn K (.ref C) "__init__" = some (some (.ref fI))
  tI : PySem.W.typeIn K (.ref fI) = some (.type "function")
  F : FnOk P w K mg base CX0 1 fI fd ps sp
  b : Binds K fd ps []
section
variable {P : Program} {w : World} {K : PySem.W.Frag} {mg : Str → Option Value} {base : Heap} {cs bs : Nat → Addr} {H H' : Hp} {a C : Addr} {f g : Str} {y z : V} {R : Hp → Prop}
theorem mkI1 (n : H a = none) (k : ∀ H', Same H H' → ExA H' a C [(f, y)] → R H') : spI1 C f [.ref a, y] (upd H a (exo a C none)) (fun v H3 => v = .non ∧ R H3) (fun _ _ _ => False) := by
  refine ⟨a, y, rfl, upd_same, fun dx nd ne => ⟨rfl, k _ (fun b o e => ?_) (.inl ⟨dx, upd_same, ?_⟩)⟩⟩
  · have n1 : b ≠ a := ne_of_none e n
    have nd' : H dx = none := by rw [← nd, upd_ne ne]
    rw [upd_ne n1, upd_ne (ne_of_none e nd'), upd_ne n1]
    exact e
  · rw [upd_ne ne]
    exact upd_same
theorem mkI2 (n : H a = none) (k : ∀ H', Same H H' → ExA H' a C [(g, z), (f, y)] → R H') : spI2 C f g [.ref a, y, z] (upd H a (exo a C none)) (fun v H3 => v = .non ∧ R H3) (fun _ _ _ => False) := by
  refine ⟨a, y, z, rfl, upd_same, fun dx nd ne => ⟨rfl, k _ (fun b o e => ?_) (.inl ⟨dx, ?_, upd_same⟩)⟩⟩
  · have n1 : b ≠ a := ne_of_none e n
    have nd' : H dx = none := by rw [← nd, upd_ne ne]
    have n2 : b ≠ dx := ne_of_none e nd'
    rw [upd_ne n2, upd_ne n1, upd_ne n2, upd_ne n1]
    exact e
  · rw [upd_ne ne.symm]
    exact upd_same

abbrev sI0 : Stmt := inClass (top 2) 0
theorem scI0 : FnScope ["self", "given"] ["self", "given"] (defScope sI0) := ⟨rfl, rfl, rfl, by decide +kernel, rfl, by decide +kernel, by decide +kernel⟩
theorem ok_I0 {fI : Addr} {fd : FuncData} (F : Fun K "__init__" "InvalidNumber.__init__" sI0 fI fd) (T : ExK K C) (hno : NoAttr K C "given") : FnOk P w K mg base CX0 1 fI fd ["self", "given"] (spI1 C "given") := by
  refine F.ok scI0 (fun vs H Q E h => ?_) (fun cdv A outer s H vs Q E hr h => ?_)
  · obtain ⟨p, y, rfl, _⟩ := h
    rfl
  · obtain ⟨p, y, rfl, hp, q⟩ := h
    exact ⟨_, pss_one (ps_setX (pv 0) (pv 1)), _, rfl, _, rfl, p, C, rfl, T, hno, .inl ⟨hp, q⟩⟩
abbrev sI1 : Stmt := inClass (top 3) 0
theorem scI1 : FnScope ["self", "given"] ["self", "given"] (defScope sI1) := ⟨rfl, rfl, rfl, by decide +kernel, rfl, by decide +kernel, by decide +kernel⟩
theorem ok_I1 {fI : Addr} {fd : FuncData} (F : Fun K "__init__" "InvalidText.__init__" sI1 fI fd) (T : ExK K C) (hno : NoAttr K C "given") : FnOk P w K mg base CX0 1 fI fd ["self", "given"] (spI1 C "given") := by
  refine F.ok scI1 (fun vs H Q E h => ?_) (fun cdv A outer s H vs Q E hr h => ?_)
  · obtain ⟨p, y, rfl, _⟩ := h
    rfl
  · obtain ⟨p, y, rfl, hp, q⟩ := h
    exact ⟨_, pss_one (ps_setX (pv 0) (pv 1)), _, rfl, _, rfl, p, C, rfl, T, hno, .inl ⟨hp, q⟩⟩
abbrev sI2 : Stmt := inClass (top 4) 0
theorem scI2 : FnScope ["self", "given"] ["self", "given"] (defScope sI2) := ⟨rfl, rfl, rfl, by decide +kernel, rfl, by decide +kernel, by decide +kernel⟩
theorem ok_I2 {fI : Addr} {fd : FuncData} (F : Fun K "__init__" "InvalidCount.__init__" sI2 fI fd) (T : ExK K C) (hno : NoAttr K C "given") : FnOk P w K mg base CX0 1 fI fd ["self", "given"] (spI1 C "given") := by
  refine F.ok scI2 (fun vs H Q E h => ?_) (fun cdv A outer s H vs Q E hr h => ?_)
  · obtain ⟨p, y, rfl, _⟩ := h
    rfl
  · obtain ⟨p, y, rfl, hp, q⟩ := h
    exact ⟨_, pss_one (ps_setX (pv 0) (pv 1)), _, rfl, _, rfl, p, C, rfl, T, hno, .inl ⟨hp, q⟩⟩
abbrev sI3 : Stmt := inClass (top 5) 0
theorem scI3 : FnScope ["self", "given"] ["self", "given"] (defScope sI3) := ⟨rfl, rfl, rfl, by decide +kernel, rfl, by decide +kernel, by decide +kernel⟩
theorem ok_I3 {fI : Addr} {fd : FuncData} (F : Fun K "__init__" "InvalidName.__init__" sI3 fI fd) (T : ExK K C) (hno : NoAttr K C "given") : FnOk P w K mg base CX0 1 fI fd ["self", "given"] (spI1 C "given") := by
  refine F.ok scI3 (fun vs H Q E h => ?_) (fun cdv A outer s H vs Q E hr h => ?_)
  · obtain ⟨p, y, rfl, _⟩ := h
    rfl
  · obtain ⟨p, y, rfl, hp, q⟩ := h
    exact ⟨_, pss_one (ps_setX (pv 0) (pv 1)), _, rfl, _, rfl, p, C, rfl, T, hno, .inl ⟨hp, q⟩⟩
abbrev sI4 : Stmt := inClass (top 6) 0
theorem scI4 : FnScope ["self", "given"] ["self", "given"] (defScope sI4) := ⟨rfl, rfl, rfl, by decide +kernel, rfl, by decide +kernel, by decide +kernel⟩
theorem ok_I4 {fI : Addr} {fd : FuncData} (F : Fun K "__init__" "InvalidTruth.__init__" sI4 fI fd) (T : ExK K C) (hno : NoAttr K C "given") : FnOk P w K mg base CX0 1 fI fd ["self", "given"] (spI1 C "given") := by
  refine F.ok scI4 (fun vs H Q E h => ?_) (fun cdv A outer s H vs Q E hr h => ?_)
  · obtain ⟨p, y, rfl, _⟩ := h
    rfl
  · obtain ⟨p, y, rfl, hp, q⟩ := h
    exact ⟨_, pss_one (ps_setX (pv 0) (pv 1)), _, rfl, _, rfl, p, C, rfl, T, hno, .inl ⟨hp, q⟩⟩
abbrev sI5 : Stmt := inClass (top 7) 0
theorem scI5 : FnScope ["self", "given"] ["self", "given"] (defScope sI5) := ⟨rfl, rfl, rfl, by decide +kernel, rfl, by decide +kernel, by decide +kernel⟩
theorem ok_I5 {fI : Addr} {fd : FuncData} (F : Fun K "__init__" "InvalidEntries.__init__" sI5 fI fd) (T : ExK K C) (hno : NoAttr K C "given") : FnOk P w K mg base CX0 1 fI fd ["self", "given"] (spI1 C "given") := by
  refine F.ok scI5 (fun vs H Q E h => ?_) (fun cdv A outer s H vs Q E hr h => ?_)
  · obtain ⟨p, y, rfl, _⟩ := h
    rfl
  · obtain ⟨p, y, rfl, hp, q⟩ := h
    exact ⟨_, pss_one (ps_setX (pv 0) (pv 1)), _, rfl, _, rfl, p, C, rfl, T, hno, .inl ⟨hp, q⟩⟩
abbrev sI6 : Stmt := inClass (top 8) 0
theorem scI6 : FnScope ["self", "given"] ["self", "given"] (defScope sI6) := ⟨rfl, rfl, rfl, by decide +kernel, rfl, by decide +kernel, by decide +kernel⟩
theorem ok_I6 {fI : Addr} {fd : FuncData} (F : Fun K "__init__" "InvalidData.__init__" sI6 fI fd) (T : ExK K C) (hno : NoAttr K C "given") : FnOk P w K mg base CX0 1 fI fd ["self", "given"] (spI1 C "given") := by
  refine F.ok scI6 (fun vs H Q E h => ?_) (fun cdv A outer s H vs Q E hr h => ?_)
  · obtain ⟨p, y, rfl, _⟩ := h
    rfl
  · obtain ⟨p, y, rfl, hp, q⟩ := h
    exact ⟨_, pss_one (ps_setX (pv 0) (pv 1)), _, rfl, _, rfl, p, C, rfl, T, hno, .inl ⟨hp, q⟩⟩
abbrev sI7 : Stmt := inClass (top 9) 0
theorem scI7 : FnScope ["self", "given"] ["self", "given"] (defScope sI7) := ⟨rfl, rfl, rfl, by decide +kernel, rfl, by decide +kernel, by decide +kernel⟩
theorem ok_I7 {fI : Addr} {fd : FuncData} (F : Fun K "__init__" "InvalidLength.__init__" sI7 fI fd) (T : ExK K C) (hno : NoAttr K C "given") : FnOk P w K mg base CX0 1 fI fd ["self", "given"] (spI1 C "given") := by
  refine F.ok scI7 (fun vs H Q E h => ?_) (fun cdv A outer s H vs Q E hr h => ?_)
  · obtain ⟨p, y, rfl, _⟩ := h
    rfl
  · obtain ⟨p, y, rfl, hp, q⟩ := h
    exact ⟨_, pss_one (ps_setX (pv 0) (pv 1)), _, rfl, _, rfl, p, C, rfl, T, hno, .inl ⟨hp, q⟩⟩
abbrev sI8 : Stmt := inClass (top 10) 0
theorem scI8 : FnScope ["self", "given"] ["self", "given"] (defScope sI8) := ⟨rfl, rfl, rfl, by decide +kernel, rfl, by decide +kernel, by decide +kernel⟩
theorem ok_I8 {fI : Addr} {fd : FuncData} (F : Fun K "__init__" "InvalidPath.__init__" sI8 fI fd) (T : ExK K C) (hno : NoAttr K C "given") : FnOk P w K mg base CX0 1 fI fd ["self", "given"] (spI1 C "given") := by
  refine F.ok scI8 (fun vs H Q E h => ?_) (fun cdv A outer s H vs Q E hr h => ?_)
  · obtain ⟨p, y, rfl, _⟩ := h
    rfl
  · obtain ⟨p, y, rfl, hp, q⟩ := h
    exact ⟨_, pss_one (ps_setX (pv 0) (pv 1)), _, rfl, _, rfl, p, C, rfl, T, hno, .inl ⟨hp, q⟩⟩
abbrev sI9 : Stmt := inClass (top 11) 0
theorem scI9 : FnScope ["self", "given"] ["self", "given"] (defScope sI9) := ⟨rfl, rfl, rfl, by decide +kernel, rfl, by decide +kernel, by decide +kernel⟩
theorem ok_I9 {fI : Addr} {fd : FuncData} (F : Fun K "__init__" "InvalidClaim.__init__" sI9 fI fd) (T : ExK K C) (hno : NoAttr K C "given") : FnOk P w K mg base CX0 1 fI fd ["self", "given"] (spI1 C "given") := by
  refine F.ok scI9 (fun vs H Q E h => ?_) (fun cdv A outer s H vs Q E hr h => ?_)
  · obtain ⟨p, y, rfl, _⟩ := h
    rfl
  · obtain ⟨p, y, rfl, hp, q⟩ := h
    exact ⟨_, pss_one (ps_setX (pv 0) (pv 1)), _, rfl, _, rfl, p, C, rfl, T, hno, .inl ⟨hp, q⟩⟩
abbrev sI10 : Stmt := inClass (top 12) 0
theorem scI10 : FnScope ["self", "given"] ["self", "given"] (defScope sI10) := ⟨rfl, rfl, rfl, by decide +kernel, rfl, by decide +kernel, by decide +kernel⟩
theorem ok_I10 {fI : Addr} {fd : FuncData} (F : Fun K "__init__" "InvalidIndex.__init__" sI10 fI fd) (T : ExK K C) (hno : NoAttr K C "given") : FnOk P w K mg base CX0 1 fI fd ["self", "given"] (spI1 C "given") := by
  refine F.ok scI10 (fun vs H Q E h => ?_) (fun cdv A outer s H vs Q E hr h => ?_)
  · obtain ⟨p, y, rfl, _⟩ := h
    rfl
  · obtain ⟨p, y, rfl, hp, q⟩ := h
    exact ⟨_, pss_one (ps_setX (pv 0) (pv 1)), _, rfl, _, rfl, p, C, rfl, T, hno, .inl ⟨hp, q⟩⟩
abbrev sI11 : Stmt := inClass (top 13) 0
theorem scI11 : FnScope ["self", "given"] ["self", "given"] (defScope sI11) := ⟨rfl, rfl, rfl, by decide +kernel, rfl, by decide +kernel, by decide +kernel⟩
theorem ok_I11 {fI : Addr} {fd : FuncData} (F : Fun K "__init__" "NotAFormula.__init__" sI11 fI fd) (T : ExK K C) (hno : NoAttr K C "given") : FnOk P w K mg base CX0 1 fI fd ["self", "given"] (spI1 C "given") := by
  refine F.ok scI11 (fun vs H Q E h => ?_) (fun cdv A outer s H vs Q E hr h => ?_)
  · obtain ⟨p, y, rfl, _⟩ := h
    rfl
  · obtain ⟨p, y, rfl, hp, q⟩ := h
    exact ⟨_, pss_one (ps_setX (pv 0) (pv 1)), _, rfl, _, rfl, p, C, rfl, T, hno, .inl ⟨hp, q⟩⟩
abbrev sI12 : Stmt := inClass (top 14) 0
theorem scI12 : FnScope ["self", "given"] ["self", "given"] (defScope sI12) := ⟨rfl, rfl, rfl, by decide +kernel, rfl, by decide +kernel, by decide +kernel⟩
theorem ok_I12 {fI : Addr} {fd : FuncData} (F : Fun K "__init__" "NotASeries.__init__" sI12 fI fd) (T : ExK K C) (hno : NoAttr K C "given") : FnOk P w K mg base CX0 1 fI fd ["self", "given"] (spI1 C "given") := by
  refine F.ok scI12 (fun vs H Q E h => ?_) (fun cdv A outer s H vs Q E hr h => ?_)
  · obtain ⟨p, y, rfl, _⟩ := h
    rfl
  · obtain ⟨p, y, rfl, hp, q⟩ := h
    exact ⟨_, pss_one (ps_setX (pv 0) (pv 1)), _, rfl, _, rfl, p, C, rfl, T, hno, .inl ⟨hp, q⟩⟩
abbrev sI13 : Stmt := inClass (top 15) 0
theorem scI13 : FnScope ["self", "given"] ["self", "given"] (defScope sI13) := ⟨rfl, rfl, rfl, by decide +kernel, rfl, by decide +kernel, by decide +kernel⟩
theorem ok_I13 {fI : Addr} {fd : FuncData} (F : Fun K "__init__" "NotARunner.__init__" sI13 fI fd) (T : ExK K C) (hno : NoAttr K C "given") : FnOk P w K mg base CX0 1 fI fd ["self", "given"] (spI1 C "given") := by
  refine F.ok scI13 (fun vs H Q E h => ?_) (fun cdv A outer s H vs Q E hr h => ?_)
  · obtain ⟨p, y, rfl, _⟩ := h
    rfl
  · obtain ⟨p, y, rfl, hp, q⟩ := h
    exact ⟨_, pss_one (ps_setX (pv 0) (pv 1)), _, rfl, _, rfl, p, C, rfl, T, hno, .inl ⟨hp, q⟩⟩
abbrev sI14 : Stmt := inClass (top 16) 0
theorem scI14 : FnScope ["self", "place"] ["self", "place"] (defScope sI14) := ⟨rfl, rfl, rfl, by decide +kernel, rfl, by decide +kernel, by decide +kernel⟩
theorem ok_I14 {fI : Addr} {fd : FuncData} (F : Fun K "__init__" "TextError.__init__" sI14 fI fd) (T : ExK K C) (hno : NoAttr K C "place") : FnOk P w K mg base CX0 1 fI fd ["self", "place"] (spI1 C "place") := by
  refine F.ok scI14 (fun vs H Q E h => ?_) (fun cdv A outer s H vs Q E hr h => ?_)
  · obtain ⟨p, y, rfl, _⟩ := h
    rfl
  · obtain ⟨p, y, rfl, hp, q⟩ := h
    exact ⟨_, pss_one (ps_setX (pv 0) (pv 1)), _, rfl, _, rfl, p, C, rfl, T, hno, .inl ⟨hp, q⟩⟩
abbrev sI15 : Stmt := inClass (top 18) 0
theorem scI15 : FnScope ["self", "given"] ["self", "given"] (defScope sI15) := ⟨rfl, rfl, rfl, by decide +kernel, rfl, by decide +kernel, by decide +kernel⟩
theorem ok_I15 {fI : Addr} {fd : FuncData} (F : Fun K "__init__" "UnknownName.__init__" sI15 fI fd) (T : ExK K C) (hno : NoAttr K C "given") : FnOk P w K mg base CX0 1 fI fd ["self", "given"] (spI1 C "given") := by
  refine F.ok scI15 (fun vs H Q E h => ?_) (fun cdv A outer s H vs Q E hr h => ?_)
  · obtain ⟨p, y, rfl, _⟩ := h
    rfl
  · obtain ⟨p, y, rfl, hp, q⟩ := h
    exact ⟨_, pss_one (ps_setX (pv 0) (pv 1)), _, rfl, _, rfl, p, C, rfl, T, hno, .inl ⟨hp, q⟩⟩
abbrev sI16 : Stmt := inClass (top 19) 0
theorem scI16 : FnScope ["self", "given"] ["self", "given"] (defScope sI16) := ⟨rfl, rfl, rfl, by decide +kernel, rfl, by decide +kernel, by decide +kernel⟩
theorem ok_I16 {fI : Addr} {fd : FuncData} (F : Fun K "__init__" "Taken.__init__" sI16 fI fd) (T : ExK K C) (hno : NoAttr K C "given") : FnOk P w K mg base CX0 1 fI fd ["self", "given"] (spI1 C "given") := by
  refine F.ok scI16 (fun vs H Q E h => ?_) (fun cdv A outer s H vs Q E hr h => ?_)
  · obtain ⟨p, y, rfl, _⟩ := h
    rfl
  · obtain ⟨p, y, rfl, hp, q⟩ := h
    exact ⟨_, pss_one (ps_setX (pv 0) (pv 1)), _, rfl, _, rfl, p, C, rfl, T, hno, .inl ⟨hp, q⟩⟩
abbrev sI17 : Stmt := inClass (top 20) 0
theorem scI17 : FnScope ["self", "user"] ["self", "user"] (defScope sI17) := ⟨rfl, rfl, rfl, by decide +kernel, rfl, by decide +kernel, by decide +kernel⟩
theorem ok_I17 {fI : Addr} {fd : FuncData} (F : Fun K "__init__" "InUse.__init__" sI17 fI fd) (T : ExK K C) (hno : NoAttr K C "user") : FnOk P w K mg base CX0 1 fI fd ["self", "user"] (spI1 C "user") := by
  refine F.ok scI17 (fun vs H Q E h => ?_) (fun cdv A outer s H vs Q E hr h => ?_)
  · obtain ⟨p, y, rfl, _⟩ := h
    rfl
  · obtain ⟨p, y, rfl, hp, q⟩ := h
    exact ⟨_, pss_one (ps_setX (pv 0) (pv 1)), _, rfl, _, rfl, p, C, rfl, T, hno, .inl ⟨hp, q⟩⟩
abbrev sI18 : Stmt := inClass (top 21) 0
theorem scI18 : FnScope ["self", "given"] ["self", "given"] (defScope sI18) := ⟨rfl, rfl, rfl, by decide +kernel, rfl, by decide +kernel, by decide +kernel⟩
theorem ok_I18 {fI : Addr} {fd : FuncData} (F : Fun K "__init__" "Circular.__init__" sI18 fI fd) (T : ExK K C) (hno : NoAttr K C "given") : FnOk P w K mg base CX0 1 fI fd ["self", "given"] (spI1 C "given") := by
  refine F.ok scI18 (fun vs H Q E h => ?_) (fun cdv A outer s H vs Q E hr h => ?_)
  · obtain ⟨p, y, rfl, _⟩ := h
    rfl
  · obtain ⟨p, y, rfl, hp, q⟩ := h
    exact ⟨_, pss_one (ps_setX (pv 0) (pv 1)), _, rfl, _, rfl, p, C, rfl, T, hno, .inl ⟨hp, q⟩⟩
abbrev sI19 : Stmt := inClass (top 22) 0
theorem scI19 : FnScope ["self", "given"] ["self", "given"] (defScope sI19) := ⟨rfl, rfl, rfl, by decide +kernel, rfl, by decide +kernel, by decide +kernel⟩
theorem ok_I19 {fI : Addr} {fd : FuncData} (F : Fun K "__init__" "Clash.__init__" sI19 fI fd) (T : ExK K C) (hno : NoAttr K C "given") : FnOk P w K mg base CX0 1 fI fd ["self", "given"] (spI1 C "given") := by
  refine F.ok scI19 (fun vs H Q E h => ?_) (fun cdv A outer s H vs Q E hr h => ?_)
  · obtain ⟨p, y, rfl, _⟩ := h
    rfl
  · obtain ⟨p, y, rfl, hp, q⟩ := h
    exact ⟨_, pss_one (ps_setX (pv 0) (pv 1)), _, rfl, _, rfl, p, C, rfl, T, hno, .inl ⟨hp, q⟩⟩
abbrev sI20 : Stmt := inClass (top 23) 0
theorem scI20 : FnScope ["self", "given"] ["self", "given"] (defScope sI20) := ⟨rfl, rfl, rfl, by decide +kernel, rfl, by decide +kernel, by decide +kernel⟩
theorem ok_I20 {fI : Addr} {fd : FuncData} (F : Fun K "__init__" "NoSeries.__init__" sI20 fI fd) (T : ExK K C) (hno : NoAttr K C "given") : FnOk P w K mg base CX0 1 fI fd ["self", "given"] (spI1 C "given") := by
  refine F.ok scI20 (fun vs H Q E h => ?_) (fun cdv A outer s H vs Q E hr h => ?_)
  · obtain ⟨p, y, rfl, _⟩ := h
    rfl
  · obtain ⟨p, y, rfl, hp, q⟩ := h
    exact ⟨_, pss_one (ps_setX (pv 0) (pv 1)), _, rfl, _, rfl, p, C, rfl, T, hno, .inl ⟨hp, q⟩⟩
abbrev sI21 : Stmt := inClass (top 24) 0
theorem scI21 : FnScope ["self", "given"] ["self", "given"] (defScope sI21) := ⟨rfl, rfl, rfl, by decide +kernel, rfl, by decide +kernel, by decide +kernel⟩
theorem ok_I21 {fI : Addr} {fd : FuncData} (F : Fun K "__init__" "NoEntry.__init__" sI21 fI fd) (T : ExK K C) (hno : NoAttr K C "given") : FnOk P w K mg base CX0 1 fI fd ["self", "given"] (spI1 C "given") := by
  refine F.ok scI21 (fun vs H Q E h => ?_) (fun cdv A outer s H vs Q E hr h => ?_)
  · obtain ⟨p, y, rfl, _⟩ := h
    rfl
  · obtain ⟨p, y, rfl, hp, q⟩ := h
    exact ⟨_, pss_one (ps_setX (pv 0) (pv 1)), _, rfl, _, rfl, p, C, rfl, T, hno, .inl ⟨hp, q⟩⟩
abbrev sI22 : Stmt := inClass (top 25) 0
theorem scI22 : FnScope ["self", "given"] ["self", "given"] (defScope sI22) := ⟨rfl, rfl, rfl, by decide +kernel, rfl, by decide +kernel, by decide +kernel⟩
theorem ok_I22 {fI : Addr} {fd : FuncData} (F : Fun K "__init__" "NotMade.__init__" sI22 fI fd) (T : ExK K C) (hno : NoAttr K C "given") : FnOk P w K mg base CX0 1 fI fd ["self", "given"] (spI1 C "given") := by
  refine F.ok scI22 (fun vs H Q E h => ?_) (fun cdv A outer s H vs Q E hr h => ?_)
  · obtain ⟨p, y, rfl, _⟩ := h
    rfl
  · obtain ⟨p, y, rfl, hp, q⟩ := h
    exact ⟨_, pss_one (ps_setX (pv 0) (pv 1)), _, rfl, _, rfl, p, C, rfl, T, hno, .inl ⟨hp, q⟩⟩
abbrev sI24 : Stmt := inClass (top 28) 0
theorem scI24 : FnScope ["self", "limit"] ["self", "limit"] (defScope sI24) := ⟨rfl, rfl, rfl, by decide +kernel, rfl, by decide +kernel, by decide +kernel⟩
theorem ok_I24 {fI : Addr} {fd : FuncData} (F : Fun K "__init__" "TooLarge.__init__" sI24 fI fd) (T : ExK K C) (hno : NoAttr K C "limit") : FnOk P w K mg base CX0 1 fI fd ["self", "limit"] (spI1 C "limit") := by
  refine F.ok scI24 (fun vs H Q E h => ?_) (fun cdv A outer s H vs Q E hr h => ?_)
  · obtain ⟨p, y, rfl, _⟩ := h
    rfl
  · obtain ⟨p, y, rfl, hp, q⟩ := h
    exact ⟨_, pss_one (ps_setX (pv 0) (pv 1)), _, rfl, _, rfl, p, C, rfl, T, hno, .inl ⟨hp, q⟩⟩
abbrev sI25 : Stmt := inClass (top 29) 0
theorem scI25 : FnScope ["self", "limit"] ["self", "limit"] (defScope sI25) := ⟨rfl, rfl, rfl, by decide +kernel, rfl, by decide +kernel, by decide +kernel⟩
theorem ok_I25 {fI : Addr} {fd : FuncData} (F : Fun K "__init__" "TooHeavy.__init__" sI25 fI fd) (T : ExK K C) (hno : NoAttr K C "limit") : FnOk P w K mg base CX0 1 fI fd ["self", "limit"] (spI1 C "limit") := by
  refine F.ok scI25 (fun vs H Q E h => ?_) (fun cdv A outer s H vs Q E hr h => ?_)
  · obtain ⟨p, y, rfl, _⟩ := h
    rfl
  · obtain ⟨p, y, rfl, hp, q⟩ := h
    exact ⟨_, pss_one (ps_setX (pv 0) (pv 1)), _, rfl, _, rfl, p, C, rfl, T, hno, .inl ⟨hp, q⟩⟩
abbrev sI26 : Stmt := inClass (top 30) 0
theorem scI26 : FnScope ["self", "reason", "place"] ["self", "reason", "place"] (defScope sI26) := ⟨rfl, rfl, rfl, by decide +kernel, rfl, by decide +kernel, by decide +kernel⟩
theorem ok_I26 {fI : Addr} {fd : FuncData} (F : Fun K "__init__" "NotUndoable.__init__" sI26 fI fd) (T : ExK K C) (hno : NoAttr K C "reason") (hno2 : NoAttr K C "place") : FnOk P w K mg base CX0 1 fI fd ["self", "reason", "place"] (spI2 C "reason" "place") := by
  refine F.ok scI26 (fun vs H Q E h => ?_) (fun cdv A outer s H vs Q E hr h => ?_)
  · obtain ⟨p, y, z, rfl, _⟩ := h
    rfl
  · obtain ⟨p, y, z, rfl, hp, q⟩ := h
    exact ⟨_, pss_cons (ps_setX (pv 0) (pv 1)) (pss_one (ps_setX (pv 0) (pv 2))), _, rfl, _, rfl, p, C, rfl, T, hno, .inl ⟨hp, fun dx nd ne => ⟨_, rfl, _, rfl, p, C, rfl, T, hno2, .inr ⟨dx, _, upd_same, (by rw [upd_ne ne]; exact upd_same), (by show 1 ≤ 900; decide), q dx nd ne⟩⟩⟩⟩
abbrev sI27 : Stmt := inClass (top 31) 0
theorem scI27 : FnScope ["self", "place"] ["self", "place"] (defScope sI27) := ⟨rfl, rfl, rfl, by decide +kernel, rfl, by decide +kernel, by decide +kernel⟩
theorem ok_I27 {fI : Addr} {fd : FuncData} (F : Fun K "__init__" "NoWay.__init__" sI27 fI fd) (T : ExK K C) (hno : NoAttr K C "place") : FnOk P w K mg base CX0 1 fI fd ["self", "place"] (spI1 C "place") := by
  refine F.ok scI27 (fun vs H Q E h => ?_) (fun cdv A outer s H vs Q E hr h => ?_)
  · obtain ⟨p, y, rfl, _⟩ := h
    rfl
  · obtain ⟨p, y, rfl, hp, q⟩ := h
    exact ⟨_, pss_one (ps_setX (pv 0) (pv 1)), _, rfl, _, rfl, p, C, rfl, T, hno, .inl ⟨hp, q⟩⟩
abbrev sI30 : Stmt := inClass (top 34) 0
theorem scI30 : FnScope ["self", "index", "shown"] ["self", "index", "shown"] (defScope sI30) := ⟨rfl, rfl, rfl, by decide +kernel, rfl, by decide +kernel, by decide +kernel⟩
theorem ok_I30 {fI : Addr} {fd : FuncData} (F : Fun K "__init__" "Broken.__init__" sI30 fI fd) (T : ExK K C) (hno : NoAttr K C "index") (hno2 : NoAttr K C "shown") : FnOk P w K mg base CX0 1 fI fd ["self", "index", "shown"] (spI2 C "index" "shown") := by
  refine F.ok scI30 (fun vs H Q E h => ?_) (fun cdv A outer s H vs Q E hr h => ?_)
  · obtain ⟨p, y, z, rfl, _⟩ := h
    rfl
  · obtain ⟨p, y, z, rfl, hp, q⟩ := h
    exact ⟨_, pss_cons (ps_setX (pv 0) (pv 1)) (pss_one (ps_setX (pv 0) (pv 2))), _, rfl, _, rfl, p, C, rfl, T, hno, .inl ⟨hp, fun dx nd ne => ⟨_, rfl, _, rfl, p, C, rfl, T, hno2, .inr ⟨dx, _, upd_same, (by rw [upd_ne ne]; exact upd_same), (by show 1 ≤ 900; decide), q dx nd ne⟩⟩⟩⟩
end
end T01

namespace T01
open PySem PySem.Spec PyProof.Rows L2 SF SX
abbrev sMade : Stmt := top 54
abbrev sNamed : Stmt := top 55
/-- what the i-th kind of error keeps -/
def fsI (i : Nat) (x y : V) : List (Str × V) := match fl i with
  | [f] => [(f, x)]
  | [f, g] => [(g, y), (f, x)]
  | _ => []
def ExL (cs : Nat → Addr) (x y : V) (H : Hp) : Nat → List Addr → Prop
  | _, [] => True
  | i, r :: rs => ExA H r (cs i) (fsI i x y) ∧ ExL cs x y H (i + 1) rs
section
variable {P : Program} {w : World} {K : PySem.W.Frag} {mg : Str → Option Value} {base : Heap} {cs bs : Nat → Addr} {H H' : Hp} {fI : Nat → Addr} {fdI : Nat → FuncData}
/-- the promises of the classes' makers -/
structure Makers (P : Program) (w : World) (K : PySem.W.Frag) (mg : Str → Option Value) (base : Heap) (cs : Nat → Addr) (fI : Nat → Addr) (fdI : Nat → FuncData) : Prop where

  M0 : ClsM P w K mg base (cs 0) (fI 0) (fdI 0) ["self", "given"] (spI1 (cs 0) "given")
  W0 : KBn K (fdI 0) ["self", "given"] 1 ["given"] g1 g1
  M1 : ClsM P w K mg base (cs 1) (fI 1) (fdI 1) ["self", "given"] (spI1 (cs 1) "given")
  W1 : KBn K (fdI 1) ["self", "given"] 1 ["given"] g1 g1
  M2 : ClsM P w K mg base (cs 2) (fI 2) (fdI 2) ["self", "given"] (spI1 (cs 2) "given")
  W2 : KBn K (fdI 2) ["self", "given"] 1 ["given"] g1 g1
  M3 : ClsM P w K mg base (cs 3) (fI 3) (fdI 3) ["self", "given"] (spI1 (cs 3) "given")
  W3 : KBn K (fdI 3) ["self", "given"] 1 ["given"] g1 g1
  M4 : ClsM P w K mg base (cs 4) (fI 4) (fdI 4) ["self", "given"] (spI1 (cs 4) "given")
  W4 : KBn K (fdI 4) ["self", "given"] 1 ["given"] g1 g1
  M5 : ClsM P w K mg base (cs 5) (fI 5) (fdI 5) ["self", "given"] (spI1 (cs 5) "given")
  W5 : KBn K (fdI 5) ["self", "given"] 1 ["given"] g1 g1
  M6 : ClsM P w K mg base (cs 6) (fI 6) (fdI 6) ["self", "given"] (spI1 (cs 6) "given")
  W6 : KBn K (fdI 6) ["self", "given"] 1 ["given"] g1 g1
  M7 : ClsM P w K mg base (cs 7) (fI 7) (fdI 7) ["self", "given"] (spI1 (cs 7) "given")
  W7 : KBn K (fdI 7) ["self", "given"] 1 ["given"] g1 g1
  M8 : ClsM P w K mg base (cs 8) (fI 8) (fdI 8) ["self", "given"] (spI1 (cs 8) "given")
  W8 : KBn K (fdI 8) ["self", "given"] 1 ["given"] g1 g1
  M9 : ClsM P w K mg base (cs 9) (fI 9) (fdI 9) ["self", "given"] (spI1 (cs 9) "given")
  W9 : KBn K (fdI 9) ["self", "given"] 1 ["given"] g1 g1
  M10 : ClsM P w K mg base (cs 10) (fI 10) (fdI 10) ["self", "given"] (spI1 (cs 10) "given")
  W10 : KBn K (fdI 10) ["self", "given"] 1 ["given"] g1 g1
  M11 : ClsM P w K mg base (cs 11) (fI 11) (fdI 11) ["self", "given"] (spI1 (cs 11) "given")
  W11 : KBn K (fdI 11) ["self", "given"] 1 ["given"] g1 g1
  M12 : ClsM P w K mg base (cs 12) (fI 12) (fdI 12) ["self", "given"] (spI1 (cs 12) "given")
  W12 : KBn K (fdI 12) ["self", "given"] 1 ["given"] g1 g1
  M13 : ClsM P w K mg base (cs 13) (fI 13) (fdI 13) ["self", "given"] (spI1 (cs 13) "given")
  W13 : KBn K (fdI 13) ["self", "given"] 1 ["given"] g1 g1
  M14 : ClsM P w K mg base (cs 14) (fI 14) (fdI 14) ["self", "place"] (spI1 (cs 14) "place")
  W14 : KBn K (fdI 14) ["self", "place"] 1 ["place"] g1 g1
  M15 : ClsM P w K mg base (cs 15) (fI 15) (fdI 15) ["self", "given"] (spI1 (cs 15) "given")
  W15 : KBn K (fdI 15) ["self", "given"] 1 ["given"] g1 g1
  M16 : ClsM P w K mg base (cs 16) (fI 16) (fdI 16) ["self", "given"] (spI1 (cs 16) "given")
  W16 : KBn K (fdI 16) ["self", "given"] 1 ["given"] g1 g1
  M17 : ClsM P w K mg base (cs 17) (fI 17) (fdI 17) ["self", "user"] (spI1 (cs 17) "user")
  W17 : KBn K (fdI 17) ["self", "user"] 1 ["user"] g1 g1
  M18 : ClsM P w K mg base (cs 18) (fI 18) (fdI 18) ["self", "given"] (spI1 (cs 18) "given")
  W18 : KBn K (fdI 18) ["self", "given"] 1 ["given"] g1 g1
  M19 : ClsM P w K mg base (cs 19) (fI 19) (fdI 19) ["self", "given"] (spI1 (cs 19) "given")
  W19 : KBn K (fdI 19) ["self", "given"] 1 ["given"] g1 g1
  M20 : ClsM P w K mg base (cs 20) (fI 20) (fdI 20) ["self", "given"] (spI1 (cs 20) "given")
  W20 : KBn K (fdI 20) ["self", "given"] 1 ["given"] g1 g1
  M21 : ClsM P w K mg base (cs 21) (fI 21) (fdI 21) ["self", "given"] (spI1 (cs 21) "given")
  W21 : KBn K (fdI 21) ["self", "given"] 1 ["given"] g1 g1
  M22 : ClsM P w K mg base (cs 22) (fI 22) (fdI 22) ["self", "given"] (spI1 (cs 22) "given")
  W22 : KBn K (fdI 22) ["self", "given"] 1 ["given"] g1 g1
  M24 : ClsM P w K mg base (cs 24) (fI 24) (fdI 24) ["self", "limit"] (spI1 (cs 24) "limit")
  W24 : KBn K (fdI 24) ["self", "limit"] 1 ["limit"] g1 g1
  M25 : ClsM P w K mg base (cs 25) (fI 25) (fdI 25) ["self", "limit"] (spI1 (cs 25) "limit")
  W25 : KBn K (fdI 25) ["self", "limit"] 1 ["limit"] g1 g1
  M26 : ClsM P w K mg base (cs 26) (fI 26) (fdI 26) ["self", "reason", "place"] (spI2 (cs 26) "reason" "place")
  W26 : KBn K (fdI 26) ["self", "reason", "place"] 1 ["place", "reason"] g2 g2
  M27 : ClsM P w K mg base (cs 27) (fI 27) (fdI 27) ["self", "place"] (spI1 (cs 27) "place")
  W27 : KBn K (fdI 27) ["self", "place"] 1 ["place"] g1 g1
  M30 : ClsM P w K mg base (cs 30) (fI 30) (fdI 30) ["self", "index", "shown"] (spI2 (cs 30) "index" "shown")
  W30 : KBn K (fdI 30) ["self", "index", "shown"] 1 ["shown", "index"] g2 g2
  N23 : PySem.W.excIn K (cs 23) [.type "ArithmeticError", .type "Exception", .type "BaseException", .type "object"] "ArithmeticError.__new__" = true
  k23 : PySem.W.keepIn K (.ref (cs 23)) = true
  N28 : PySem.W.excIn K (cs 28) [.type "ArithmeticError", .type "Exception", .type "BaseException", .type "object"] "ArithmeticError.__new__" = true
  k28 : PySem.W.keepIn K (.ref (cs 28)) = true
  N29 : PySem.W.excIn K (cs 29) [.type "ArithmeticError", .type "Exception", .type "BaseException", .type "object"] "ArithmeticError.__new__" = true
  k29 : PySem.W.keepIn K (.ref (cs 29)) = true
def spMade (cs : Nat → Addr) : Sp := fun vs H Q _ => ∃ x y : V, vs = [x, y] ∧ ∀ p H' (rs : List Addr), Same H H' → H' p = some (.lst (rs.map V.ref)) → rs.length = 31 → ExL cs x y H' 0 rs → Q (.ref p) H'
theorem scMade : FnScope ["_law_odd_here", "_law_far", "_law_some"] ["_law_odd_here", "_law_far"] (defScope sMade) := ⟨rfl, rfl, rfl, by decide +kernel, rfl, by decide +kernel, by decide +kernel⟩
theorem ok_made {f : Addr} {fd : FuncData} (F : Fun K "_law_made" "_law_made" sMade f fd) (T : ErrT K mg cs bs) (MK : Makers P w K mg base cs fI fdI) : FnOk P w K mg base CX0 3 f fd ["_law_odd_here", "_law_far"] (spMade cs) := by
  refine F.ok scMade (fun vs H Q E h => ?_) (fun cdv A outer s H vs Q E hr h => ?_)
  · obtain ⟨x, y, rfl, _⟩ := h
    rfl
  · obtain ⟨x, y, rfl, q⟩ := h
    refine ⟨_, (pss_cons (ps_set (i := 2) scMade.nd rfl (.inl rfl) (pe_lst (pa_cons (pe_mkX MK.M0.T MK.M0.iC MK.M0.tI MK.M0.F hr (by rfl) (T.g 0 (by decide)) MK.M0.b (n := 1) (by rfl) pass0 (pa_cons (pv 0) pa_nil)) (pa_cons (pe_mkX MK.M1.T MK.M1.iC MK.M1.tI MK.M1.F hr (by rfl) (T.g 1 (by decide)) MK.M1.b (n := 1) (by rfl) pass0 (pa_cons (pv 0) pa_nil)) (pa_cons (pe_mkX MK.M2.T MK.M2.iC MK.M2.tI MK.M2.F hr (by rfl) (T.g 2 (by decide)) MK.M2.b (n := 1) (by rfl) pass0 (pa_cons (pv 0) pa_nil)) (pa_cons (pe_mkX MK.M3.T MK.M3.iC MK.M3.tI MK.M3.F hr (by rfl) (T.g 3 (by decide)) MK.M3.b (n := 1) (by rfl) pass0 (pa_cons (pv 0) pa_nil)) (pa_cons (pe_mkX MK.M4.T MK.M4.iC MK.M4.tI MK.M4.F hr (by rfl) (T.g 4 (by decide)) MK.M4.b (n := 1) (by rfl) pass0 (pa_cons (pv 0) pa_nil)) pa_nil)))))))
      (pss_cons (ps_set (i := 2) scMade.nd rfl (.inl rfl) (pe_op op_cat (pv 2) (pe_lst (pa_cons (pe_mkX MK.M5.T MK.M5.iC MK.M5.tI MK.M5.F hr (by rfl) (T.g 5 (by decide)) MK.M5.b (n := 1) (by rfl) pass0 (pa_cons (pv 0) pa_nil)) (pa_cons (pe_mkX MK.M6.T MK.M6.iC MK.M6.tI MK.M6.F hr (by rfl) (T.g 6 (by decide)) MK.M6.b (n := 1) (by rfl) pass0 (pa_cons (pv 0) pa_nil)) (pa_cons (pe_mkX MK.M7.T MK.M7.iC MK.M7.tI MK.M7.F hr (by rfl) (T.g 7 (by decide)) MK.M7.b (n := 1) (by rfl) pass0 (pa_cons (pv 0) pa_nil)) (pa_cons (pe_mkX MK.M8.T MK.M8.iC MK.M8.tI MK.M8.F hr (by rfl) (T.g 8 (by decide)) MK.M8.b (n := 1) (by rfl) pass0 (pa_cons (pv 0) pa_nil)) (pa_cons (pe_mkX MK.M9.T MK.M9.iC MK.M9.tI MK.M9.F hr (by rfl) (T.g 9 (by decide)) MK.M9.b (n := 1) (by rfl) pass0 (pa_cons (pv 0) pa_nil)) pa_nil))))))))
      (pss_cons (ps_set (i := 2) scMade.nd rfl (.inl rfl) (pe_op op_cat (pv 2) (pe_lst (pa_cons (pe_mkX MK.M10.T MK.M10.iC MK.M10.tI MK.M10.F hr (by rfl) (T.g 10 (by decide)) MK.M10.b (n := 1) (by rfl) pass0 (pa_cons (pv 0) pa_nil)) (pa_cons (pe_mkX MK.M11.T MK.M11.iC MK.M11.tI MK.M11.F hr (by rfl) (T.g 11 (by decide)) MK.M11.b (n := 1) (by rfl) pass0 (pa_cons (pv 0) pa_nil)) (pa_cons (pe_mkX MK.M12.T MK.M12.iC MK.M12.tI MK.M12.F hr (by rfl) (T.g 12 (by decide)) MK.M12.b (n := 1) (by rfl) pass0 (pa_cons (pv 0) pa_nil)) (pa_cons (pe_mkX MK.M13.T MK.M13.iC MK.M13.tI MK.M13.F hr (by rfl) (T.g 13 (by decide)) MK.M13.b (n := 1) (by rfl) pass0 (pa_cons (pv 0) pa_nil)) (pa_cons (pe_mkX MK.M14.T MK.M14.iC MK.M14.tI MK.M14.F hr (by rfl) (T.g 14 (by decide)) MK.M14.b (n := 1) (by rfl) pass0 (pa_cons (pv 0) pa_nil)) pa_nil))))))))
      (pss_cons (ps_set (i := 2) scMade.nd rfl (.inl rfl) (pe_op op_cat (pv 2) (pe_lst (pa_cons (pe_mkX MK.M15.T MK.M15.iC MK.M15.tI MK.M15.F hr (by rfl) (T.g 15 (by decide)) MK.M15.b (n := 1) (by rfl) pass0 (pa_cons (pv 0) pa_nil)) (pa_cons (pe_mkX MK.M16.T MK.M16.iC MK.M16.tI MK.M16.F hr (by rfl) (T.g 16 (by decide)) MK.M16.b (n := 1) (by rfl) pass0 (pa_cons (pv 0) pa_nil)) (pa_cons (pe_mkX MK.M17.T MK.M17.iC MK.M17.tI MK.M17.F hr (by rfl) (T.g 17 (by decide)) MK.M17.b (n := 1) (by rfl) pass0 (pa_cons (pv 0) pa_nil)) (pa_cons (pe_mkX MK.M18.T MK.M18.iC MK.M18.tI MK.M18.F hr (by rfl) (T.g 18 (by decide)) MK.M18.b (n := 1) (by rfl) pass0 (pa_cons (pv 0) pa_nil)) (pa_cons (pe_mkX MK.M19.T MK.M19.iC MK.M19.tI MK.M19.F hr (by rfl) (T.g 19 (by decide)) MK.M19.b (n := 1) (by rfl) pass0 (pa_cons (pv 0) pa_nil)) (pa_cons (pe_mkX MK.M20.T MK.M20.iC MK.M20.tI MK.M20.F hr (by rfl) (T.g 20 (by decide)) MK.M20.b (n := 1) (by rfl) pass0 (pa_cons (pv 0) pa_nil)) (pa_cons (pe_mkX MK.M21.T MK.M21.iC MK.M21.tI MK.M21.F hr (by rfl) (T.g 21 (by decide)) MK.M21.b (n := 1) (by rfl) pass0 (pa_cons (pv 0) pa_nil)) pa_nil))))))))))
      (pss_cons (ps_set (i := 2) scMade.nd rfl (.inl rfl) (pe_op op_cat (pv 2) (pe_lst (pa_cons (pe_mkX MK.M22.T MK.M22.iC MK.M22.tI MK.M22.F hr (by rfl) (T.g 22 (by decide)) MK.M22.b (n := 1) (by rfl) pass0 (pa_cons (pv 0) pa_nil)) (pa_cons (pe_mkX0 PySem.F.excBase_ArithmeticError MK.N23 (T.g 23 (by decide)) MK.k23 (by rfl)) (pa_cons (pe_mkX MK.M24.T MK.M24.iC MK.M24.tI MK.M24.F hr (by rfl) (T.g 24 (by decide)) MK.M24.b (n := 1) (by rfl) pass0 (pa_cons (pv 0) pa_nil)) (pa_cons (pe_mkX MK.M25.T MK.M25.iC MK.M25.tI MK.M25.F hr (by rfl) (T.g 25 (by decide)) MK.M25.b (n := 1) (by rfl) pass0 (pa_cons (pv 0) pa_nil)) (pa_cons (pe_mkX MK.M26.T MK.M26.iC MK.M26.tI MK.M26.F hr (by rfl) (T.g 26 (by decide)) MK.M26.b (n := 2) (by rfl) pass0 (pa_cons (pv 0) (pa_cons (pv 1) pa_nil))) (pa_cons (pe_mkX MK.M27.T MK.M27.iC MK.M27.tI MK.M27.F hr (by rfl) (T.g 27 (by decide)) MK.M27.b (n := 1) (by rfl) pass0 (pa_cons (pv 0) pa_nil)) pa_nil)))))))))
      (pss_one (ps_ret (pe_op op_cat (pv 2) (pe_lst (pa_cons (pe_mkX0 PySem.F.excBase_ArithmeticError MK.N28 (T.g 28 (by decide)) MK.k28 (by rfl)) (pa_cons (pe_mkX0 PySem.F.excBase_ArithmeticError MK.N29 (T.g 29 (by decide)) MK.k29 (by rfl)) (pa_cons (pe_mkX MK.M30.T MK.M30.iC MK.M30.tI MK.M30.F hr (by rfl) (T.g 30 (by decide)) MK.M30.b (n := 2) (by rfl) pass0 (pa_cons (pv 0) (pa_cons (pv 1) pa_nil))) pa_nil)))))))))))), ?_⟩
    refine ⟨_, rfl, rfl, rfl, (by decide), fun r0 n0 => ?_⟩
    refine mkI1 n0 fun H1 y1 e0 => ?_
    replace e0 : ExA H1 r0 (cs 0) (fsI 0 x y) := e0
    refine ⟨_, rfl, rfl, rfl, (by decide), fun r1 n1 => ?_⟩
    refine mkI1 n1 fun H2 y2 e1 => ?_
    replace e1 : ExA H2 r1 (cs 1) (fsI 1 x y) := e1
    refine ⟨_, rfl, rfl, rfl, (by decide), fun r2 n2 => ?_⟩
    refine mkI1 n2 fun H3 y3 e2 => ?_
    replace e2 : ExA H3 r2 (cs 2) (fsI 2 x y) := e2
    refine ⟨_, rfl, rfl, rfl, (by decide), fun r3 n3 => ?_⟩
    refine mkI1 n3 fun H4 y4 e3 => ?_
    replace e3 : ExA H4 r3 (cs 3) (fsI 3 x y) := e3
    refine ⟨_, rfl, rfl, rfl, (by decide), fun r4 n4 => ?_⟩
    refine mkI1 n4 fun H5 y5 e4 => ?_
    replace e4 : ExA H5 r4 (cs 4) (fsI 4 x y) := e4
    refine ⟨(by show 5 ≤ sizeLine; decide), fun p6 m6 => ?_⟩
    generalize hh : upd H5 p6 _ = H6
    have l6 := upd_got hh
    have y6 := upd_stay hh m6
    clear hh
    refine ⟨_, rfl, _, rfl, rfl, rfl, (by decide), fun r5 n5 => ?_⟩
    refine mkI1 n5 fun H7 y7 e5 => ?_
    replace e5 : ExA H7 r5 (cs 5) (fsI 5 x y) := e5
    refine ⟨_, rfl, rfl, rfl, (by decide), fun r6 n6 => ?_⟩
    refine mkI1 n6 fun H8 y8 e6 => ?_
    replace e6 : ExA H8 r6 (cs 6) (fsI 6 x y) := e6
    refine ⟨_, rfl, rfl, rfl, (by decide), fun r7 n7 => ?_⟩
    refine mkI1 n7 fun H9 y9 e7 => ?_
    replace e7 : ExA H9 r7 (cs 7) (fsI 7 x y) := e7
    refine ⟨_, rfl, rfl, rfl, (by decide), fun r8 n8 => ?_⟩
    refine mkI1 n8 fun H10 y10 e8 => ?_
    replace e8 : ExA H10 r8 (cs 8) (fsI 8 x y) := e8
    refine ⟨_, rfl, rfl, rfl, (by decide), fun r9 n9 => ?_⟩
    refine mkI1 n9 fun H11 y11 e9 => ?_
    replace e9 : ExA H11 r9 (cs 9) (fsI 9 x y) := e9
    refine ⟨(by show 5 ≤ sizeLine; decide), fun p12 m12 => ?_⟩
    generalize hh : upd H11 p12 _ = H12
    have l12 := upd_got hh
    have y12 := upd_stay hh m12
    clear hh
    refine ⟨p6, p12, _, _, rfl, rfl, (y12 _ _ (y11 _ _ (y10 _ _ (y9 _ _ (y8 _ _ (y7 _ _ l6)))))), l12, (by show 10 ≤ sizeLine; decide), fun p13 m13 => ?_⟩
    generalize hh : upd H12 p13 _ = H13
    have l13 := upd_got hh
    have y13 := upd_stay hh m13
    clear hh
    refine ⟨_, rfl, _, rfl, rfl, rfl, (by decide), fun r10 n10 => ?_⟩
    refine mkI1 n10 fun H14 y14 e10 => ?_
    replace e10 : ExA H14 r10 (cs 10) (fsI 10 x y) := e10
    refine ⟨_, rfl, rfl, rfl, (by decide), fun r11 n11 => ?_⟩
    refine mkI1 n11 fun H15 y15 e11 => ?_
    replace e11 : ExA H15 r11 (cs 11) (fsI 11 x y) := e11
    refine ⟨_, rfl, rfl, rfl, (by decide), fun r12 n12 => ?_⟩
    refine mkI1 n12 fun H16 y16 e12 => ?_
    replace e12 : ExA H16 r12 (cs 12) (fsI 12 x y) := e12
    refine ⟨_, rfl, rfl, rfl, (by decide), fun r13 n13 => ?_⟩
    refine mkI1 n13 fun H17 y17 e13 => ?_
    replace e13 : ExA H17 r13 (cs 13) (fsI 13 x y) := e13
    refine ⟨_, rfl, rfl, rfl, (by decide), fun r14 n14 => ?_⟩
    refine mkI1 n14 fun H18 y18 e14 => ?_
    replace e14 : ExA H18 r14 (cs 14) (fsI 14 x y) := e14
    refine ⟨(by show 5 ≤ sizeLine; decide), fun p19 m19 => ?_⟩
    generalize hh : upd H18 p19 _ = H19
    have l19 := upd_got hh
    have y19 := upd_stay hh m19
    clear hh
    refine ⟨p13, p19, _, _, rfl, rfl, (y19 _ _ (y18 _ _ (y17 _ _ (y16 _ _ (y15 _ _ (y14 _ _ l13)))))), l19, (by show 15 ≤ sizeLine; decide), fun p20 m20 => ?_⟩
    generalize hh : upd H19 p20 _ = H20
    have l20 := upd_got hh
    have y20 := upd_stay hh m20
    clear hh
    refine ⟨_, rfl, _, rfl, rfl, rfl, (by decide), fun r15 n15 => ?_⟩
    refine mkI1 n15 fun H21 y21 e15 => ?_
    replace e15 : ExA H21 r15 (cs 15) (fsI 15 x y) := e15
    refine ⟨_, rfl, rfl, rfl, (by decide), fun r16 n16 => ?_⟩
    refine mkI1 n16 fun H22 y22 e16 => ?_
    replace e16 : ExA H22 r16 (cs 16) (fsI 16 x y) := e16
    refine ⟨_, rfl, rfl, rfl, (by decide), fun r17 n17 => ?_⟩
    refine mkI1 n17 fun H23 y23 e17 => ?_
    replace e17 : ExA H23 r17 (cs 17) (fsI 17 x y) := e17
    refine ⟨_, rfl, rfl, rfl, (by decide), fun r18 n18 => ?_⟩
    refine mkI1 n18 fun H24 y24 e18 => ?_
    replace e18 : ExA H24 r18 (cs 18) (fsI 18 x y) := e18
    refine ⟨_, rfl, rfl, rfl, (by decide), fun r19 n19 => ?_⟩
    refine mkI1 n19 fun H25 y25 e19 => ?_
    replace e19 : ExA H25 r19 (cs 19) (fsI 19 x y) := e19
    refine ⟨_, rfl, rfl, rfl, (by decide), fun r20 n20 => ?_⟩
    refine mkI1 n20 fun H26 y26 e20 => ?_
    replace e20 : ExA H26 r20 (cs 20) (fsI 20 x y) := e20
    refine ⟨_, rfl, rfl, rfl, (by decide), fun r21 n21 => ?_⟩
    refine mkI1 n21 fun H27 y27 e21 => ?_
    replace e21 : ExA H27 r21 (cs 21) (fsI 21 x y) := e21
    refine ⟨(by show 7 ≤ sizeLine; decide), fun p28 m28 => ?_⟩
    generalize hh : upd H27 p28 _ = H28
    have l28 := upd_got hh
    have y28 := upd_stay hh m28
    clear hh
    refine ⟨p20, p28, _, _, rfl, rfl, (y28 _ _ (y27 _ _ (y26 _ _ (y25 _ _ (y24 _ _ (y23 _ _ (y22 _ _ (y21 _ _ l20)))))))), l28, (by show 22 ≤ sizeLine; decide), fun p29 m29 => ?_⟩
    generalize hh : upd H28 p29 _ = H29
    have l29 := upd_got hh
    have y29 := upd_stay hh m29
    clear hh
    refine ⟨_, rfl, _, rfl, rfl, rfl, (by decide), fun r22 n22 => ?_⟩
    refine mkI1 n22 fun H30 y30 e22 => ?_
    replace e22 : ExA H30 r22 (cs 22) (fsI 22 x y) := e22
    intro r23 n23
    generalize hh : upd H30 r23 _ = H31
    have e23 : ExA H31 r23 (cs 23) (fsI 23 x y) := .inr ⟨rfl, upd_got hh⟩
    have y31 := upd_stay hh n23
    clear hh
    refine ⟨_, rfl, rfl, rfl, (by decide), fun r24 n24 => ?_⟩
    refine mkI1 n24 fun H32 y32 e24 => ?_
    replace e24 : ExA H32 r24 (cs 24) (fsI 24 x y) := e24
    refine ⟨_, rfl, rfl, rfl, (by decide), fun r25 n25 => ?_⟩
    refine mkI1 n25 fun H33 y33 e25 => ?_
    replace e25 : ExA H33 r25 (cs 25) (fsI 25 x y) := e25
    refine ⟨_, rfl, _, rfl, rfl, rfl, (by decide), fun r26 n26 => ?_⟩
    refine mkI2 n26 fun H34 y34 e26 => ?_
    replace e26 : ExA H34 r26 (cs 26) (fsI 26 x y) := e26
    refine ⟨_, rfl, rfl, rfl, (by decide), fun r27 n27 => ?_⟩
    refine mkI1 n27 fun H35 y35 e27 => ?_
    replace e27 : ExA H35 r27 (cs 27) (fsI 27 x y) := e27
    refine ⟨(by show 6 ≤ sizeLine; decide), fun p36 m36 => ?_⟩
    generalize hh : upd H35 p36 _ = H36
    have l36 := upd_got hh
    have y36 := upd_stay hh m36
    clear hh
    refine ⟨p29, p36, _, _, rfl, rfl, (y36 _ _ (y35 _ _ (y34 _ _ (y33 _ _ (y32 _ _ (y31 _ _ (y30 _ _ l29))))))), l36, (by show 28 ≤ sizeLine; decide), fun p37 m37 => ?_⟩
    generalize hh : upd H36 p37 _ = H37
    have l37 := upd_got hh
    have y37 := upd_stay hh m37
    clear hh
    refine ⟨_, rfl, fun r28 n28 => ?_⟩
    generalize hh : upd H37 r28 _ = H38
    have e28 : ExA H38 r28 (cs 28) (fsI 28 x y) := .inr ⟨rfl, upd_got hh⟩
    have y38 := upd_stay hh n28
    clear hh
    intro r29 n29
    generalize hh : upd H38 r29 _ = H39
    have e29 : ExA H39 r29 (cs 29) (fsI 29 x y) := .inr ⟨rfl, upd_got hh⟩
    have y39 := upd_stay hh n29
    clear hh
    refine ⟨_, rfl, _, rfl, rfl, rfl, (by decide), fun r30 n30 => ?_⟩
    refine mkI2 n30 fun H40 y40 e30 => ?_
    replace e30 : ExA H40 r30 (cs 30) (fsI 30 x y) := e30
    refine ⟨(by show 3 ≤ sizeLine; decide), fun p41 m41 => ?_⟩
    generalize hh : upd H40 p41 _ = H41
    have l41 := upd_got hh
    have y41 := upd_stay hh m41
    clear hh
    refine ⟨p37, p41, _, _, rfl, rfl, (y41 _ _ (y40 _ _ (y39 _ _ (y38 _ _ l37)))), l41, (by show 31 ≤ sizeLine; decide), fun p42 m42 => ?_⟩
    generalize hh : upd H41 p42 _ = H42
    have l42 := upd_got hh
    have y42 := upd_stay hh m42
    clear hh
    have S42 : Same H42 H42 := Same.refl _
    have S41 : Same H41 H42 := Same.tr y42 S42
    have S40 : Same H40 H42 := Same.tr y41 S41
    have S39 : Same H39 H42 := Same.tr y40 S40
    have S38 : Same H38 H42 := Same.tr y39 S39
    have S37 : Same H37 H42 := Same.tr y38 S38
    have S36 : Same H36 H42 := Same.tr y37 S37
    have S35 : Same H35 H42 := Same.tr y36 S36
    have S34 : Same H34 H42 := Same.tr y35 S35
    have S33 : Same H33 H42 := Same.tr y34 S34
    have S32 : Same H32 H42 := Same.tr y33 S33
    have S31 : Same H31 H42 := Same.tr y32 S32
    have S30 : Same H30 H42 := Same.tr y31 S31
    have S29 : Same H29 H42 := Same.tr y30 S30
    have S28 : Same H28 H42 := Same.tr y29 S29
    have S27 : Same H27 H42 := Same.tr y28 S28
    have S26 : Same H26 H42 := Same.tr y27 S27
    have S25 : Same H25 H42 := Same.tr y26 S26
    have S24 : Same H24 H42 := Same.tr y25 S25
    have S23 : Same H23 H42 := Same.tr y24 S24
    have S22 : Same H22 H42 := Same.tr y23 S23
    have S21 : Same H21 H42 := Same.tr y22 S22
    have S20 : Same H20 H42 := Same.tr y21 S21
    have S19 : Same H19 H42 := Same.tr y20 S20
    have S18 : Same H18 H42 := Same.tr y19 S19
    have S17 : Same H17 H42 := Same.tr y18 S18
    have S16 : Same H16 H42 := Same.tr y17 S17
    have S15 : Same H15 H42 := Same.tr y16 S16
    have S14 : Same H14 H42 := Same.tr y15 S15
    have S13 : Same H13 H42 := Same.tr y14 S14
    have S12 : Same H12 H42 := Same.tr y13 S13
    have S11 : Same H11 H42 := Same.tr y12 S12
    have S10 : Same H10 H42 := Same.tr y11 S11
    have S9 : Same H9 H42 := Same.tr y10 S10
    have S8 : Same H8 H42 := Same.tr y9 S9
    have S7 : Same H7 H42 := Same.tr y8 S8
    have S6 : Same H6 H42 := Same.tr y7 S7
    have S5 : Same H5 H42 := Same.tr y6 S6
    have S4 : Same H4 H42 := Same.tr y5 S5
    have S3 : Same H3 H42 := Same.tr y4 S4
    have S2 : Same H2 H42 := Same.tr y3 S3
    have S1 : Same H1 H42 := Same.tr y2 S2
    have S0 : Same H H42 := Same.tr y1 S1
    exact q p42 H42 [r0, r1, r2, r3, r4, r5, r6, r7, r8, r9, r10, r11, r12, r13, r14, r15, r16, r17, r18, r19, r20, r21, r22, r23, r24, r25, r26, r27, r28, r29, r30] S0 l42 rfl ⟨e0.same S1, e1.same S2, e2.same S3, e3.same S4, e4.same S5, e5.same S7, e6.same S8, e7.same S9, e8.same S10, e9.same S11, e10.same S14, e11.same S15, e12.same S16, e13.same S17, e14.same S18, e15.same S21, e16.same S22, e17.same S23, e18.same S24, e19.same S25, e20.same S26, e21.same S27, e22.same S30, e23.same S31, e24.same S32, e25.same S33, e26.same S34, e27.same S35, e28.same S38, e29.same S39, e30.same S40, True.intro⟩
theorem scNamed : FnScope ["_law_odd_here", "_law_far", "_law_some"] ["_law_odd_here", "_law_far"] (defScope sNamed) := ⟨rfl, rfl, rfl, by decide +kernel, rfl, by decide +kernel, by decide +kernel⟩
theorem ok_named {f : Addr} {fd : FuncData} (F : Fun K "_law_named" "_law_named" sNamed f fd) (T : ErrT K mg cs bs) (MK : Makers P w K mg base cs fI fdI) : FnOk P w K mg base CX0 3 f fd ["_law_odd_here", "_law_far"] (spMade cs) := by
  refine F.ok scNamed (fun vs H Q E h => ?_) (fun cdv A outer s H vs Q E hr h => ?_)
  · obtain ⟨x, y, rfl, _⟩ := h
    rfl
  · obtain ⟨x, y, rfl, q⟩ := h
    refine ⟨_, (pss_cons (ps_set (i := 2) scNamed.nd rfl (.inl rfl) (pe_lst (pa_cons (pe_mkXK (ks := ["given"]) MK.M0.T MK.M0.iC MK.M0.tI MK.M0.F hr (by rfl) (T.g 0 (by decide)) MK.W0 pass0 (pk_cons (pv 0) pk_nil)) (pa_cons (pe_mkXK (ks := ["given"]) MK.M1.T MK.M1.iC MK.M1.tI MK.M1.F hr (by rfl) (T.g 1 (by decide)) MK.W1 pass0 (pk_cons (pv 0) pk_nil)) (pa_cons (pe_mkXK (ks := ["given"]) MK.M2.T MK.M2.iC MK.M2.tI MK.M2.F hr (by rfl) (T.g 2 (by decide)) MK.W2 pass0 (pk_cons (pv 0) pk_nil)) (pa_cons (pe_mkXK (ks := ["given"]) MK.M3.T MK.M3.iC MK.M3.tI MK.M3.F hr (by rfl) (T.g 3 (by decide)) MK.W3 pass0 (pk_cons (pv 0) pk_nil)) pa_nil))))))
      (pss_cons (ps_set (i := 2) scNamed.nd rfl (.inl rfl) (pe_op op_cat (pv 2) (pe_lst (pa_cons (pe_mkXK (ks := ["given"]) MK.M4.T MK.M4.iC MK.M4.tI MK.M4.F hr (by rfl) (T.g 4 (by decide)) MK.W4 pass0 (pk_cons (pv 0) pk_nil)) (pa_cons (pe_mkXK (ks := ["given"]) MK.M5.T MK.M5.iC MK.M5.tI MK.M5.F hr (by rfl) (T.g 5 (by decide)) MK.W5 pass0 (pk_cons (pv 0) pk_nil)) (pa_cons (pe_mkXK (ks := ["given"]) MK.M6.T MK.M6.iC MK.M6.tI MK.M6.F hr (by rfl) (T.g 6 (by decide)) MK.W6 pass0 (pk_cons (pv 0) pk_nil)) pa_nil))))))
      (pss_cons (ps_set (i := 2) scNamed.nd rfl (.inl rfl) (pe_op op_cat (pv 2) (pe_lst (pa_cons (pe_mkXK (ks := ["given"]) MK.M7.T MK.M7.iC MK.M7.tI MK.M7.F hr (by rfl) (T.g 7 (by decide)) MK.W7 pass0 (pk_cons (pv 0) pk_nil)) (pa_cons (pe_mkXK (ks := ["given"]) MK.M8.T MK.M8.iC MK.M8.tI MK.M8.F hr (by rfl) (T.g 8 (by decide)) MK.W8 pass0 (pk_cons (pv 0) pk_nil)) (pa_cons (pe_mkXK (ks := ["given"]) MK.M9.T MK.M9.iC MK.M9.tI MK.M9.F hr (by rfl) (T.g 9 (by decide)) MK.W9 pass0 (pk_cons (pv 0) pk_nil)) pa_nil))))))
      (pss_cons (ps_set (i := 2) scNamed.nd rfl (.inl rfl) (pe_op op_cat (pv 2) (pe_lst (pa_cons (pe_mkXK (ks := ["given"]) MK.M10.T MK.M10.iC MK.M10.tI MK.M10.F hr (by rfl) (T.g 10 (by decide)) MK.W10 pass0 (pk_cons (pv 0) pk_nil)) (pa_cons (pe_mkXK (ks := ["given"]) MK.M11.T MK.M11.iC MK.M11.tI MK.M11.F hr (by rfl) (T.g 11 (by decide)) MK.W11 pass0 (pk_cons (pv 0) pk_nil)) (pa_cons (pe_mkXK (ks := ["given"]) MK.M12.T MK.M12.iC MK.M12.tI MK.M12.F hr (by rfl) (T.g 12 (by decide)) MK.W12 pass0 (pk_cons (pv 0) pk_nil)) (pa_cons (pe_mkXK (ks := ["given"]) MK.M13.T MK.M13.iC MK.M13.tI MK.M13.F hr (by rfl) (T.g 13 (by decide)) MK.W13 pass0 (pk_cons (pv 0) pk_nil)) pa_nil)))))))
      (pss_cons (ps_set (i := 2) scNamed.nd rfl (.inl rfl) (pe_op op_cat (pv 2) (pe_lst (pa_cons (pe_mkXK (ks := ["place"]) MK.M14.T MK.M14.iC MK.M14.tI MK.M14.F hr (by rfl) (T.g 14 (by decide)) MK.W14 pass0 (pk_cons (pv 0) pk_nil)) (pa_cons (pe_mkXK (ks := ["given"]) MK.M15.T MK.M15.iC MK.M15.tI MK.M15.F hr (by rfl) (T.g 15 (by decide)) MK.W15 pass0 (pk_cons (pv 0) pk_nil)) (pa_cons (pe_mkXK (ks := ["given"]) MK.M16.T MK.M16.iC MK.M16.tI MK.M16.F hr (by rfl) (T.g 16 (by decide)) MK.W16 pass0 (pk_cons (pv 0) pk_nil)) (pa_cons (pe_mkXK (ks := ["user"]) MK.M17.T MK.M17.iC MK.M17.tI MK.M17.F hr (by rfl) (T.g 17 (by decide)) MK.W17 pass0 (pk_cons (pv 0) pk_nil)) pa_nil)))))))
      (pss_cons (ps_set (i := 2) scNamed.nd rfl (.inl rfl) (pe_op op_cat (pv 2) (pe_lst (pa_cons (pe_mkXK (ks := ["given"]) MK.M18.T MK.M18.iC MK.M18.tI MK.M18.F hr (by rfl) (T.g 18 (by decide)) MK.W18 pass0 (pk_cons (pv 0) pk_nil)) (pa_cons (pe_mkXK (ks := ["given"]) MK.M19.T MK.M19.iC MK.M19.tI MK.M19.F hr (by rfl) (T.g 19 (by decide)) MK.W19 pass0 (pk_cons (pv 0) pk_nil)) (pa_cons (pe_mkXK (ks := ["given"]) MK.M20.T MK.M20.iC MK.M20.tI MK.M20.F hr (by rfl) (T.g 20 (by decide)) MK.W20 pass0 (pk_cons (pv 0) pk_nil)) (pa_cons (pe_mkXK (ks := ["given"]) MK.M21.T MK.M21.iC MK.M21.tI MK.M21.F hr (by rfl) (T.g 21 (by decide)) MK.W21 pass0 (pk_cons (pv 0) pk_nil)) (pa_cons (pe_mkXK (ks := ["given"]) MK.M22.T MK.M22.iC MK.M22.tI MK.M22.F hr (by rfl) (T.g 22 (by decide)) MK.W22 pass0 (pk_cons (pv 0) pk_nil)) pa_nil))))))))
      (pss_cons (ps_set (i := 2) scNamed.nd rfl (.inl rfl) (pe_op op_cat (pv 2) (pe_lst (pa_cons (pe_mkX0 PySem.F.excBase_ArithmeticError MK.N23 (T.g 23 (by decide)) MK.k23 (by rfl)) (pa_cons (pe_mkXK (ks := ["limit"]) MK.M24.T MK.M24.iC MK.M24.tI MK.M24.F hr (by rfl) (T.g 24 (by decide)) MK.W24 pass0 (pk_cons (pv 0) pk_nil)) (pa_cons (pe_mkXK (ks := ["limit"]) MK.M25.T MK.M25.iC MK.M25.tI MK.M25.F hr (by rfl) (T.g 25 (by decide)) MK.W25 pass0 (pk_cons (pv 0) pk_nil)) (pa_cons (pe_mkXK (ks := ["place", "reason"]) MK.M26.T MK.M26.iC MK.M26.tI MK.M26.F hr (by rfl) (T.g 26 (by decide)) MK.W26 pass0 (pk_cons (pv 1) (pk_cons (pv 0) pk_nil))) pa_nil)))))))
      (pss_one (ps_ret (pe_op op_cat (pv 2) (pe_lst (pa_cons (pe_mkXK (ks := ["place"]) MK.M27.T MK.M27.iC MK.M27.tI MK.M27.F hr (by rfl) (T.g 27 (by decide)) MK.W27 pass0 (pk_cons (pv 0) pk_nil)) (pa_cons (pe_mkX0 PySem.F.excBase_ArithmeticError MK.N28 (T.g 28 (by decide)) MK.k28 (by rfl)) (pa_cons (pe_mkX0 PySem.F.excBase_ArithmeticError MK.N29 (T.g 29 (by decide)) MK.k29 (by rfl)) (pa_cons (pe_mkXK (ks := ["shown", "index"]) MK.M30.T MK.M30.iC MK.M30.tI MK.M30.F hr (by rfl) (T.g 30 (by decide)) MK.W30 pass0 (pk_cons (pv 1) (pk_cons (pv 0) pk_nil))) pa_nil))))))))))))))), ?_⟩
    refine ⟨_, rfl, rfl, rfl, (by decide), fun r0 n0 => ?_⟩
    refine mkI1 n0 fun H1 y1 e0 => ?_
    replace e0 : ExA H1 r0 (cs 0) (fsI 0 x y) := e0
    refine ⟨_, rfl, rfl, rfl, (by decide), fun r1 n1 => ?_⟩
    refine mkI1 n1 fun H2 y2 e1 => ?_
    replace e1 : ExA H2 r1 (cs 1) (fsI 1 x y) := e1
    refine ⟨_, rfl, rfl, rfl, (by decide), fun r2 n2 => ?_⟩
    refine mkI1 n2 fun H3 y3 e2 => ?_
    replace e2 : ExA H3 r2 (cs 2) (fsI 2 x y) := e2
    refine ⟨_, rfl, rfl, rfl, (by decide), fun r3 n3 => ?_⟩
    refine mkI1 n3 fun H4 y4 e3 => ?_
    replace e3 : ExA H4 r3 (cs 3) (fsI 3 x y) := e3
    refine ⟨(by show 4 ≤ sizeLine; decide), fun p5 m5 => ?_⟩
    generalize hh : upd H4 p5 _ = H5
    have l5 := upd_got hh
    have y5 := upd_stay hh m5
    clear hh
    refine ⟨_, rfl, _, rfl, rfl, rfl, (by decide), fun r4 n4 => ?_⟩
    refine mkI1 n4 fun H6 y6 e4 => ?_
    replace e4 : ExA H6 r4 (cs 4) (fsI 4 x y) := e4
    refine ⟨_, rfl, rfl, rfl, (by decide), fun r5 n5 => ?_⟩
    refine mkI1 n5 fun H7 y7 e5 => ?_
    replace e5 : ExA H7 r5 (cs 5) (fsI 5 x y) := e5
    refine ⟨_, rfl, rfl, rfl, (by decide), fun r6 n6 => ?_⟩
    refine mkI1 n6 fun H8 y8 e6 => ?_
    replace e6 : ExA H8 r6 (cs 6) (fsI 6 x y) := e6
    refine ⟨(by show 3 ≤ sizeLine; decide), fun p9 m9 => ?_⟩
    generalize hh : upd H8 p9 _ = H9
    have l9 := upd_got hh
    have y9 := upd_stay hh m9
    clear hh
    refine ⟨p5, p9, _, _, rfl, rfl, (y9 _ _ (y8 _ _ (y7 _ _ (y6 _ _ l5)))), l9, (by show 7 ≤ sizeLine; decide), fun p10 m10 => ?_⟩
    generalize hh : upd H9 p10 _ = H10
    have l10 := upd_got hh
    have y10 := upd_stay hh m10
    clear hh
    refine ⟨_, rfl, _, rfl, rfl, rfl, (by decide), fun r7 n7 => ?_⟩
    refine mkI1 n7 fun H11 y11 e7 => ?_
    replace e7 : ExA H11 r7 (cs 7) (fsI 7 x y) := e7
    refine ⟨_, rfl, rfl, rfl, (by decide), fun r8 n8 => ?_⟩
    refine mkI1 n8 fun H12 y12 e8 => ?_
    replace e8 : ExA H12 r8 (cs 8) (fsI 8 x y) := e8
    refine ⟨_, rfl, rfl, rfl, (by decide), fun r9 n9 => ?_⟩
    refine mkI1 n9 fun H13 y13 e9 => ?_
    replace e9 : ExA H13 r9 (cs 9) (fsI 9 x y) := e9
    refine ⟨(by show 3 ≤ sizeLine; decide), fun p14 m14 => ?_⟩
    generalize hh : upd H13 p14 _ = H14
    have l14 := upd_got hh
    have y14 := upd_stay hh m14
    clear hh
    refine ⟨p10, p14, _, _, rfl, rfl, (y14 _ _ (y13 _ _ (y12 _ _ (y11 _ _ l10)))), l14, (by show 10 ≤ sizeLine; decide), fun p15 m15 => ?_⟩
    generalize hh : upd H14 p15 _ = H15
    have l15 := upd_got hh
    have y15 := upd_stay hh m15
    clear hh
    refine ⟨_, rfl, _, rfl, rfl, rfl, (by decide), fun r10 n10 => ?_⟩
    refine mkI1 n10 fun H16 y16 e10 => ?_
    replace e10 : ExA H16 r10 (cs 10) (fsI 10 x y) := e10
    refine ⟨_, rfl, rfl, rfl, (by decide), fun r11 n11 => ?_⟩
    refine mkI1 n11 fun H17 y17 e11 => ?_
    replace e11 : ExA H17 r11 (cs 11) (fsI 11 x y) := e11
    refine ⟨_, rfl, rfl, rfl, (by decide), fun r12 n12 => ?_⟩
    refine mkI1 n12 fun H18 y18 e12 => ?_
    replace e12 : ExA H18 r12 (cs 12) (fsI 12 x y) := e12
    refine ⟨_, rfl, rfl, rfl, (by decide), fun r13 n13 => ?_⟩
    refine mkI1 n13 fun H19 y19 e13 => ?_
    replace e13 : ExA H19 r13 (cs 13) (fsI 13 x y) := e13
    refine ⟨(by show 4 ≤ sizeLine; decide), fun p20 m20 => ?_⟩
    generalize hh : upd H19 p20 _ = H20
    have l20 := upd_got hh
    have y20 := upd_stay hh m20
    clear hh
    refine ⟨p15, p20, _, _, rfl, rfl, (y20 _ _ (y19 _ _ (y18 _ _ (y17 _ _ (y16 _ _ l15))))), l20, (by show 14 ≤ sizeLine; decide), fun p21 m21 => ?_⟩
    generalize hh : upd H20 p21 _ = H21
    have l21 := upd_got hh
    have y21 := upd_stay hh m21
    clear hh
    refine ⟨_, rfl, _, rfl, rfl, rfl, (by decide), fun r14 n14 => ?_⟩
    refine mkI1 n14 fun H22 y22 e14 => ?_
    replace e14 : ExA H22 r14 (cs 14) (fsI 14 x y) := e14
    refine ⟨_, rfl, rfl, rfl, (by decide), fun r15 n15 => ?_⟩
    refine mkI1 n15 fun H23 y23 e15 => ?_
    replace e15 : ExA H23 r15 (cs 15) (fsI 15 x y) := e15
    refine ⟨_, rfl, rfl, rfl, (by decide), fun r16 n16 => ?_⟩
    refine mkI1 n16 fun H24 y24 e16 => ?_
    replace e16 : ExA H24 r16 (cs 16) (fsI 16 x y) := e16
    refine ⟨_, rfl, rfl, rfl, (by decide), fun r17 n17 => ?_⟩
    refine mkI1 n17 fun H25 y25 e17 => ?_
    replace e17 : ExA H25 r17 (cs 17) (fsI 17 x y) := e17
    refine ⟨(by show 4 ≤ sizeLine; decide), fun p26 m26 => ?_⟩
    generalize hh : upd H25 p26 _ = H26
    have l26 := upd_got hh
    have y26 := upd_stay hh m26
    clear hh
    refine ⟨p21, p26, _, _, rfl, rfl, (y26 _ _ (y25 _ _ (y24 _ _ (y23 _ _ (y22 _ _ l21))))), l26, (by show 18 ≤ sizeLine; decide), fun p27 m27 => ?_⟩
    generalize hh : upd H26 p27 _ = H27
    have l27 := upd_got hh
    have y27 := upd_stay hh m27
    clear hh
    refine ⟨_, rfl, _, rfl, rfl, rfl, (by decide), fun r18 n18 => ?_⟩
    refine mkI1 n18 fun H28 y28 e18 => ?_
    replace e18 : ExA H28 r18 (cs 18) (fsI 18 x y) := e18
    refine ⟨_, rfl, rfl, rfl, (by decide), fun r19 n19 => ?_⟩
    refine mkI1 n19 fun H29 y29 e19 => ?_
    replace e19 : ExA H29 r19 (cs 19) (fsI 19 x y) := e19
    refine ⟨_, rfl, rfl, rfl, (by decide), fun r20 n20 => ?_⟩
    refine mkI1 n20 fun H30 y30 e20 => ?_
    replace e20 : ExA H30 r20 (cs 20) (fsI 20 x y) := e20
    refine ⟨_, rfl, rfl, rfl, (by decide), fun r21 n21 => ?_⟩
    refine mkI1 n21 fun H31 y31 e21 => ?_
    replace e21 : ExA H31 r21 (cs 21) (fsI 21 x y) := e21
    refine ⟨_, rfl, rfl, rfl, (by decide), fun r22 n22 => ?_⟩
    refine mkI1 n22 fun H32 y32 e22 => ?_
    replace e22 : ExA H32 r22 (cs 22) (fsI 22 x y) := e22
    refine ⟨(by show 5 ≤ sizeLine; decide), fun p33 m33 => ?_⟩
    generalize hh : upd H32 p33 _ = H33
    have l33 := upd_got hh
    have y33 := upd_stay hh m33
    clear hh
    refine ⟨p27, p33, _, _, rfl, rfl, (y33 _ _ (y32 _ _ (y31 _ _ (y30 _ _ (y29 _ _ (y28 _ _ l27)))))), l33, (by show 23 ≤ sizeLine; decide), fun p34 m34 => ?_⟩
    generalize hh : upd H33 p34 _ = H34
    have l34 := upd_got hh
    have y34 := upd_stay hh m34
    clear hh
    refine ⟨_, rfl, fun r23 n23 => ?_⟩
    generalize hh : upd H34 r23 _ = H35
    have e23 : ExA H35 r23 (cs 23) (fsI 23 x y) := .inr ⟨rfl, upd_got hh⟩
    have y35 := upd_stay hh n23
    clear hh
    refine ⟨_, rfl, rfl, rfl, (by decide), fun r24 n24 => ?_⟩
    refine mkI1 n24 fun H36 y36 e24 => ?_
    replace e24 : ExA H36 r24 (cs 24) (fsI 24 x y) := e24
    refine ⟨_, rfl, rfl, rfl, (by decide), fun r25 n25 => ?_⟩
    refine mkI1 n25 fun H37 y37 e25 => ?_
    replace e25 : ExA H37 r25 (cs 25) (fsI 25 x y) := e25
    refine ⟨_, rfl, _, rfl, rfl, rfl, (by decide), fun r26 n26 => ?_⟩
    refine mkI2 n26 fun H38 y38 e26 => ?_
    replace e26 : ExA H38 r26 (cs 26) (fsI 26 x y) := e26
    refine ⟨(by show 4 ≤ sizeLine; decide), fun p39 m39 => ?_⟩
    generalize hh : upd H38 p39 _ = H39
    have l39 := upd_got hh
    have y39 := upd_stay hh m39
    clear hh
    refine ⟨p34, p39, _, _, rfl, rfl, (y39 _ _ (y38 _ _ (y37 _ _ (y36 _ _ (y35 _ _ l34))))), l39, (by show 27 ≤ sizeLine; decide), fun p40 m40 => ?_⟩
    generalize hh : upd H39 p40 _ = H40
    have l40 := upd_got hh
    have y40 := upd_stay hh m40
    clear hh
    refine ⟨_, rfl, _, rfl, rfl, rfl, (by decide), fun r27 n27 => ?_⟩
    refine mkI1 n27 fun H41 y41 e27 => ?_
    replace e27 : ExA H41 r27 (cs 27) (fsI 27 x y) := e27
    intro r28 n28
    generalize hh : upd H41 r28 _ = H42
    have e28 : ExA H42 r28 (cs 28) (fsI 28 x y) := .inr ⟨rfl, upd_got hh⟩
    have y42 := upd_stay hh n28
    clear hh
    intro r29 n29
    generalize hh : upd H42 r29 _ = H43
    have e29 : ExA H43 r29 (cs 29) (fsI 29 x y) := .inr ⟨rfl, upd_got hh⟩
    have y43 := upd_stay hh n29
    clear hh
    refine ⟨_, rfl, _, rfl, rfl, rfl, (by decide), fun r30 n30 => ?_⟩
    refine mkI2 n30 fun H44 y44 e30 => ?_
    replace e30 : ExA H44 r30 (cs 30) (fsI 30 x y) := e30
    refine ⟨(by show 4 ≤ sizeLine; decide), fun p45 m45 => ?_⟩
    generalize hh : upd H44 p45 _ = H45
    have l45 := upd_got hh
    have y45 := upd_stay hh m45
    clear hh
    refine ⟨p40, p45, _, _, rfl, rfl, (y45 _ _ (y44 _ _ (y43 _ _ (y42 _ _ (y41 _ _ l40))))), l45, (by show 31 ≤ sizeLine; decide), fun p46 m46 => ?_⟩
    generalize hh : upd H45 p46 _ = H46
    have l46 := upd_got hh
    have y46 := upd_stay hh m46
    clear hh
    have S46 : Same H46 H46 := Same.refl _
    have S45 : Same H45 H46 := Same.tr y46 S46
    have S44 : Same H44 H46 := Same.tr y45 S45
    have S43 : Same H43 H46 := Same.tr y44 S44
    have S42 : Same H42 H46 := Same.tr y43 S43
    have S41 : Same H41 H46 := Same.tr y42 S42
    have S40 : Same H40 H46 := Same.tr y41 S41
    have S39 : Same H39 H46 := Same.tr y40 S40
    have S38 : Same H38 H46 := Same.tr y39 S39
    have S37 : Same H37 H46 := Same.tr y38 S38
    have S36 : Same H36 H46 := Same.tr y37 S37
    have S35 : Same H35 H46 := Same.tr y36 S36
    have S34 : Same H34 H46 := Same.tr y35 S35
    have S33 : Same H33 H46 := Same.tr y34 S34
    have S32 : Same H32 H46 := Same.tr y33 S33
    have S31 : Same H31 H46 := Same.tr y32 S32
    have S30 : Same H30 H46 := Same.tr y31 S31
    have S29 : Same H29 H46 := Same.tr y30 S30
    have S28 : Same H28 H46 := Same.tr y29 S29
    have S27 : Same H27 H46 := Same.tr y28 S28
    have S26 : Same H26 H46 := Same.tr y27 S27
    have S25 : Same H25 H46 := Same.tr y26 S26
    have S24 : Same H24 H46 := Same.tr y25 S25
    have S23 : Same H23 H46 := Same.tr y24 S24
    have S22 : Same H22 H46 := Same.tr y23 S23
    have S21 : Same H21 H46 := Same.tr y22 S22
    have S20 : Same H20 H46 := Same.tr y21 S21
    have S19 : Same H19 H46 := Same.tr y20 S20
    have S18 : Same H18 H46 := Same.tr y19 S19
    have S17 : Same H17 H46 := Same.tr y18 S18
    have S16 : Same H16 H46 := Same.tr y17 S17
    have S15 : Same H15 H46 := Same.tr y16 S16
    have S14 : Same H14 H46 := Same.tr y15 S15
    have S13 : Same H13 H46 := Same.tr y14 S14
    have S12 : Same H12 H46 := Same.tr y13 S13
    have S11 : Same H11 H46 := Same.tr y12 S12
    have S10 : Same H10 H46 := Same.tr y11 S11
    have S9 : Same H9 H46 := Same.tr y10 S10
    have S8 : Same H8 H46 := Same.tr y9 S9
    have S7 : Same H7 H46 := Same.tr y8 S8
    have S6 : Same H6 H46 := Same.tr y7 S7
    have S5 : Same H5 H46 := Same.tr y6 S6
    have S4 : Same H4 H46 := Same.tr y5 S5
    have S3 : Same H3 H46 := Same.tr y4 S4
    have S2 : Same H2 H46 := Same.tr y3 S3
    have S1 : Same H1 H46 := Same.tr y2 S2
    have S0 : Same H H46 := Same.tr y1 S1
    exact q p46 H46 [r0, r1, r2, r3, r4, r5, r6, r7, r8, r9, r10, r11, r12, r13, r14, r15, r16, r17, r18, r19, r20, r21, r22, r23, r24, r25, r26, r27, r28, r29, r30] S0 l46 rfl ⟨e0.same S1, e1.same S2, e2.same S3, e3.same S4, e4.same S6, e5.same S7, e6.same S8, e7.same S11, e8.same S12, e9.same S13, e10.same S16, e11.same S17, e12.same S18, e13.same S19, e14.same S22, e15.same S23, e16.same S24, e17.same S25, e18.same S28, e19.same S29, e20.same S30, e21.same S31, e22.same S32, e23.same S35, e24.same S36, e25.same S37, e26.same S38, e27.same S41, e28.same S42, e29.same S43, e30.same S44, True.intro⟩
end
end T01

namespace T01
open PySem PySem.Spec PyProof.Rows L2 SF SX
abbrev sRight : Stmt := top 56
theorem call_isX2 {X : Cx} {K : PySem.W.Frag} (h : X.K = K) : CallR X (.builtin "isinstance") (rIsX K) := by subst h; exact call_isX
structure Blt3 (mg : Str → Option Value) : Prop where
  repr_ : mg "repr" = none
  range : mg "range" = none
  len : mg "len" = none
def dueV (i : Nat) (x y : V) : List V := match fl i with
  | [_] => [x]
  | [_, _] => [x, y]
  | _ => []
def dueD (i : Nat) (x y : PyData) : List PyData := match fl i with
  | [_] => [x]
  | [_, _] => [x, y]
  | _ => []
theorem nms_at : ∀ i, i < 31 → (nms.map V.str)[i]? = some (.str (nm i)) := by decide +kernel
theorem nms_get : ∀ k, k < 31 → nms[k]? = some (nm k) := by decide +kernel
theorem fl_cases : ∀ i, i < 31 → (fl i).length = 1 ∨ (fl i).length = 2 ∨ fl i = [] := by decide +kernel
theorem fl_two : ∀ i, i < 31 → (fl i).length = 2 → fl i = ([("reason" : Str), "place"] : List Str) ∨ fl i = ([("index" : Str), "shown"] : List Str) := by decide +kernel
theorem due_look (i : Nat) (hi : i < 31) (x y : V) : (fl i).map (fun f => (fsI i x y).lookup f) = (dueV i x y).map some := by
  unfold fsI dueV
  rcases fl_cases i hi with h | h | h
  · obtain ⟨f, e⟩ := List.length_eq_one_iff.mp h
    rw [e]
    simp [List.lookup]
  · rcases fl_two i hi h with e | e
    · rw [e]
      rfl
    · rw [e]
      rfl
  · rw [h]
    rfl
theorem ExL.get {cs : Nat → Addr} {x y : V} {H : Hp} : ∀ {rs : List Addr} {s i : Nat} {r : Addr}, ExL cs x y H s rs → rs[i]? = some r → ExA H r (cs (s + i)) (fsI (s + i) x y)
  | [], _, _, _, _, h => by simp at h
  | r0 :: rs, s, 0, r, e, h => by
    cases (show some r0 = some r from h)
    exact e.1
  | r0 :: rs, s, i + 1, r, e, h => by
    have z := ExL.get (rs := rs) (s := s + 1) (i := i) e.2 h
    rw [show s + (i + 1) = s + 1 + i by omega]
    exact z
theorem ExL.same {cs : Nat → Addr} {x y : V} {H H' : Hp} (k : Same H H') : ∀ {rs : List Addr} {s : Nat}, ExL cs x y H s rs → ExL cs x y H' s rs
  | [], _, _ => True.intro
  | _ :: _, _, e => ⟨e.1.same k, ExL.same k e.2⟩
theorem nmsD : PyData.eqv (.list (nms.map PyData.str)) (.list (nms.map PyData.str)) = true := by decide +kernel
theorem nmsS : SeqAt.shaped (.list (nms.map PyData.str)) = true := by decide +kernel
theorem strDp {K : PySem.W.Frag} {H : Hp} : ∀ xs : List Str, DpAll K H (xs.map V.str) (xs.map PyData.str)
  | [] => .nil
  | x :: xs => .cons (.str x) (strDp xs)
/-- what is shown of one or two things -/
def okD (d : PyData) : Bool := d.showable && (decide (d.depth ≤ 8) && decide (d.shown.length ≤ 1000))
theorem menu1 : ∀ d ∈ menuD, okD (.tuple [d]) = true := by
  have h : (menuD.all fun d => okD (.tuple [d])) = true := by decide +kernel
  exact fun d hd => List.all_eq_true.mp h d hd
theorem menu2 : ∀ d ∈ menuD, ∀ e ∈ menuD, okD (.tuple [d, e]) = true := by
  have h : (menuD.all fun d => menuD.all fun e => okD (.tuple [d, e])) = true := by decide +kernel
  exact fun d hd e he => List.all_eq_true.mp (List.all_eq_true.mp h d hd) e he
theorem menu0 : okD (.tuple []) = true := by decide +kernel
theorem due_ok {i : Nat} (hi : i < 31) {d e : PyData} (hd : d ∈ menuD) (he : e ∈ menuD) : okD (.tuple (dueD i d e)) = true := by
  unfold dueD
  rcases fl_cases i hi with h | h | h
  · obtain ⟨f, ef⟩ := List.length_eq_one_iff.mp h
    rw [ef]
    exact menu1 d hd
  · rcases fl_two i hi h with ef | ef
    · rw [ef]
      exact menu2 d hd e he
    · rw [ef]
      exact menu2 d hd e he
  · rw [h]
    exact menu0
theorem due_sd {i : Nat} (hi : i < 31) {H : Hp} {p : Addr} {x y : V} {d e : PyData} (hp : H p = some (.tup (dueV i x y))) (hd : Sd H x d) (he : Sd H y e) : Sd H (.ref p) (.tuple (dueD i d e)) := by
  unfold dueV at hp
  unfold dueD
  rcases fl_cases i hi with h | h | h
  · obtain ⟨f, ef⟩ := List.length_eq_one_iff.mp h
    rw [ef] at hp ⊢
    exact .tup hp (.cons hd .nil)
  · rcases fl_two i hi h with ef | ef
    · rw [ef] at hp ⊢
      exact .tup hp (.cons hd (.cons he .nil))
    · rw [ef] at hp ⊢
      exact .tup hp (.cons hd (.cons he .nil))
  · rw [h] at hp ⊢
    exact .tup hp .nil
section
variable {P : Program} {w : World} {K : PySem.W.Frag} {mg : Str → Option Value} {base : Heap} {cs bs : Nat → Addr} {H H' : Hp} {fI : Nat → Addr} {fdI : Nat → FuncData}

theorem scRight : FnScope ["_law_source_here", "_law_odd_here", "_law_far", "_law_words", "_law_some", "_law_k", "_law_due", "_law_e"] ["_law_source_here"] (defScope sRight) := ⟨rfl, rfl, rfl, by decide +kernel, rfl, by decide +kernel, by decide +kernel⟩
def spRight : Sp := fun vs H Q _ => ∃ a : Addr, vs = [.ref a] ∧ SrcAt H a ∧ ∀ H', SrcAt H' a → But a H H' → Q (.bl true) H'
theorem ok_right {f fO fN fM fW fD fS : Addr} {fd fdO fdN fdM fdW fdD fdS : FuncData} (F : Fun K "_law_right" "_law_right" sRight f fd) (T : ErrT K mg cs bs) (R : Blt3 mg)
    (FO : Fun K "_law_odd" "_law_odd" sOdd fO fdO) (GO : FnOk P w K mg base CX0 3 fO fdO ["_law_source_here"] spOdd) (bO : Binds K fdO ["_law_source_here"] []) (gO : mg "_law_odd" = some (.ref fO))
    (FN : Fun K "_law_names_of_classes" "_law_names_of_classes" sNames fN fdN) (GN : FnOk P w K mg base CX0 3 fN fdN [] spNames) (bN : Binds K fdN [] []) (gN : mg "_law_names_of_classes" = some (.ref fN))
    (FM : Fun K "_law_made" "_law_made" sMade fM fdM) (GM : FnOk P w K mg base CX0 3 fM fdM ["_law_odd_here", "_law_far"] (spMade cs)) (bM : Binds K fdM ["_law_odd_here", "_law_far"] []) (gM : mg "_law_made" = some (.ref fM))
    (FW : Fun K "_law_named" "_law_named" sNamed fW fdW) (GW : FnOk P w K mg base CX0 3 fW fdW ["_law_odd_here", "_law_far"] (spMade cs)) (bW : Binds K fdW ["_law_odd_here", "_law_far"] []) (gW : mg "_law_named" = some (.ref fW))
    (FD : Fun K "_law_word" "_law_word" sWord fD fdD) (GD : FnOk P w K mg base CX0 3 fD fdD ["_law_e"] (spWord cs)) (bD : Binds K fdD ["_law_e"] []) (gD : mg "_law_word" = some (.ref fD))
    (FS : Fun K "_law_fields" "_law_fields" sFields fS fdS) (GS : FnOk P w K mg base CX0 3 fS fdS ["_law_e", "_law_word_here"] (spFields cs)) (bS : Binds K fdS ["_law_e", "_law_word_here"] []) (gS : mg "_law_fields" = some (.ref fS)) :
    FnG P w K mg base CX0 4 f fd ["_law_source_here"] spRight := by
  refine okG F scRight (fun vs H Q E h => ?_) (fun cdv A outer s H vs Q E hgd hr h => ?_)
  · obtain ⟨a, rfl, _⟩ := h
    rfl
  · obtain ⟨a, rfl, hs, q⟩ := h
    refine ⟨_, (pss_cons (ps_par (i := 1) (j := 2) (by rfl) scRight.nd rfl rfl (by decide) rfl rfl (pa_cons (pe_call GO hr (by rfl) gO FO.kp bO .nil pass0 (pa_cons (pv 0) pa_nil)) (pa_cons (pe_call GO hr (by rfl) gO FO.kp bO .nil pass0 (pa_cons (pv 0) pa_nil)) pa_nil)) (by rfl))
      (pss_cons (ps_set (i := 3) scRight.nd rfl (.inl rfl) (pe_call0 GN hr (by rfl) gN FN.kp bN .nil pass0))
      (pss_cons (ps_for PassesOwn.never rfl (pi_list (pe_lst (pa_cons (pe_call GM hr (by rfl) gM FM.kp bM .nil pass0 (pa_cons (pv 1) (pa_cons (pv 2) pa_nil))) (pa_cons (pe_call GW hr (by rfl) gW FW.kp bW .nil pass0 (pa_cons (pv 1) (pa_cons (pv 2) pa_nil))) pa_nil)))) (pg_name (i := 4) scRight.nd rfl (.inl rfl)) (pss_cons (ps_if (pt_cmpR (op_neD hr.units) (pe_lc (own := [("_law_e", 7)]) (g := gName 7) (tt := tYes) rfl scRight.nd (pi_list (pv 4)) (blkOk_by (N := ["_law_source_here", "_law_odd_here", "_law_far", "_law_words", "_law_some", "_law_k", "_law_due", "_law_e"]) (sc := defScope sRight) (by decide +kernel)) (fun _ _ _ _ _ => pg_name (i := 7) scRight.nd rfl (Or.inl rfl)) (fun _ _ _ _ _ => pts_nil) (fun _ _ _ _ _ => (pe_call GD hr (by rfl) gD FD.kp bD .nil pass0 (pa_cons (pv 7) pa_nil)))) (pv 3) (nomark _)) (pss_one (ps_ret pe_bl)) pss_nil)
      (pss_cons (ps_for PassesOwn.never rfl (pi_range1 rfl R.range (pa_cons (pe_callB call_len_seq (by rfl) R.len PySem.boot_len (pa_cons (pv 3) pa_nil)) pa_nil)) (pg_name (i := 5) scRight.nd rfl (.inl rfl)) (pss_cons (ps_set (i := 6) scRight.nd rfl (.inl rfl) (pe_tup (pa_cons (pv 1) pa_nil)))
      (pss_cons (ps_if (pt_cmpR op_in_seq (pe_ix ix_list (pv 3) (pv 5) (fun _ _ => rfl)) (pe_lst (pa_cons pe_str (pa_cons pe_str pa_nil))) rfl) (pss_one (ps_set (i := 6) scRight.nd rfl (.inl rfl) (pe_tup (pa_cons (pv 1) (pa_cons (pv 2) pa_nil))))) pss_nil)
      (pss_cons (ps_if (pt_cmpR op_in_seq (pe_ix ix_list (pv 3) (pv 5) (fun _ _ => rfl)) (pe_lst (pa_cons pe_str (pa_cons pe_str (pa_cons pe_str pa_nil)))) rfl) (pss_one (ps_set (i := 6) scRight.nd rfl (.inl rfl) (pe_tup pa_nil))) pss_nil)
      (pss_one (ps_if (pt_cmpR op_ne (pe_callB (call_reprS hgd hr) (by rfl) R.repr_ (by decide +kernel) (pa_cons (pe_call GS hr (by rfl) gS FS.kp bS .nil pass0 (pa_cons (pe_ix ix_list (pv 4) (pv 5) (fun _ _ => rfl)) (pa_cons (pe_ix ix_list (pv 3) (pv 5) (fun _ _ => rfl)) pa_nil))) pa_nil)) (pe_callB (call_reprS hgd hr) (by rfl) R.repr_ (by decide +kernel) (pa_cons (pv 6) pa_nil)) (nomark _)) (pss_one (ps_ret pe_bl)) pss_nil))))))
      (pss_cons (ps_if (pt_cmpR (op_neD hr.units) (pe_lc (own := [("_law_e", 7)]) (g := gName 7) rfl scRight.nd (pi_list (pv 4)) (blkOk_by (N := ["_law_source_here", "_law_odd_here", "_law_far", "_law_words", "_law_some", "_law_k", "_law_due", "_law_e"]) (sc := defScope sRight) (by decide +kernel)) (fun _ _ _ _ _ => pg_name (i := 7) scRight.nd rfl (Or.inl rfl)) (fun _ _ _ _ _ => pts_one (PW.pt (pw_or (pt_val (pe_callB (call_isX2 (K := K) rfl) (by rfl) T.isi boot_isinstance (pa_cons (pv 7) (pa_cons (pe_bltn (v := .ty "KeyError") (u := .type "KeyError") (by rfl) T.key (by decide +kernel) rfl) pa_nil)))) (pw_or1 (pt_val (pe_callB (call_isX2 (K := K) rfl) (by rfl) T.isi boot_isinstance (pa_cons (pv 7) (pa_cons (pe_bltn (v := .ty "IndexError") (u := .type "IndexError") (by rfl) T.ind (by decide +kernel) rfl) pa_nil)))))))) (fun _ _ _ _ _ => (pv 7))) (pe_lst pa_nil) (nomark _)) (pss_one (ps_ret pe_bl)) pss_nil)
      (pss_one (ps_if (pt_cmpR (op_neD hr.units) (pe_lc (own := [("_law_e", 7)]) (g := gName 7) rfl scRight.nd (pi_list (pv 4)) (blkOk_by (N := ["_law_source_here", "_law_odd_here", "_law_far", "_law_words", "_law_some", "_law_k", "_law_due", "_law_e"]) (sc := defScope sRight) (by decide +kernel)) (fun _ _ _ _ _ => pg_name (i := 7) scRight.nd rfl (Or.inl rfl)) (fun _ _ _ _ _ => pts_one (PW.pt (pw_or (pt_val (pe_callB (call_isX2 (K := K) rfl) (by rfl) T.isi boot_isinstance (pa_cons (pv 7) (pa_cons (pe_bltn (v := .ty "ZeroDivisionError") (u := .type "ZeroDivisionError") (by rfl) T.zer (by decide +kernel) rfl) pa_nil)))) (pw_or1 (pt_val (pe_callB (call_isX2 (K := K) rfl) (by rfl) T.isi boot_isinstance (pa_cons (pv 7) (pa_cons (pe_bltn (v := .ty "OverflowError") (u := .type "OverflowError") (by rfl) T.ove (by decide +kernel) rfl) pa_nil)))))))) (fun _ _ _ _ _ => (pv 7))) (pe_lst pa_nil) (nomark _)) (pss_one (ps_ret pe_bl)) pss_nil))))))
      (pss_one (ps_ret pe_bl))))), ?_⟩
    refine ⟨_, rfl, a, rfl, hs, fun x dx H1 mx sx s1 k1 => ?_⟩
    refine ⟨_, rfl, a, rfl, s1, fun y dy H2 my sy s2 k2 => ?_⟩
    have SX0 : Sd H2 x dx := (sx.same k2.hide).same fun b o e => hide_le e
    have SY0 : Sd H2 y dy := sy.same fun b o e => hide_le e
    refine ⟨_, _, rfl, rfl, fun pn H3 s3 gn => ?_⟩
    refine ⟨_, rfl, _, rfl, x, y, rfl, fun pm H4 rs1 s4 gm l1 e1 => ?_⟩
    refine ⟨_, rfl, _, rfl, x, y, rfl, fun pw H5 rs2 s5 gw l2 e2 => ?_⟩
    refine ⟨(by show 2 ≤ sizeLine; decide), fun pl nl => ?_⟩
    generalize h6 : upd H5 pl _ = H6
    have gl : H6 pl = some (.lst [.ref pm, .ref pw]) := upd_got h6
    have s6 := upd_stay h6 nl
    have S26 : Same H2 H6 := Same.tr s3 (Same.tr s4 (Same.tr s5 s6))
    have gn6 : H6 pn = some (.lst (nms.map V.str)) := s6 _ _ (s5 _ _ (s4 _ _ gn))
    have both : ∀ (j : Nat) (v : V), [V.ref pm, V.ref pw][j]? = some v → ∃ (pr : Addr) (rs : List Addr), v = .ref pr ∧ H6 pr = some (.lst (rs.map V.ref)) ∧ rs.length = 31 ∧ ExL cs x y H6 0 rs := fun j v hj => by
      match j, hj with
      | 0, h => cases h; exact ⟨pm, rs1, rfl, s6 _ _ (s5 _ _ gm), l1, e1.same (Same.tr s5 s6)⟩
      | 1, h => cases h; exact ⟨pw, rs2, rfl, s6 _ _ gw, l2, e2.same s6⟩
      | (n + 2), h => simp at h
    refine ⟨pl, rfl, ⟨_, SqL.of gl⟩, for_list (K := K) (a := pl) (xs := [V.ref pm, V.ref pw]) (fun i σ H' => Same H6 H' ∧ ∃ w4 w5 w6 w7, σ = [some (.ref a), some x, some y, some (.ref pn), w4, w5, w6, w7])
      ⟨Same.refl _, none, none, none, none, rfl⟩ (fun i σ H' _ ⟨z, _⟩ => SqL.of (z _ _ gl)) ?_ ?_⟩
    · rintro j v σ H' hj ⟨sH, w4, w5, w6, w7, rfl⟩
      obtain ⟨pr, rs, rfl, gr6, lr, er6⟩ := both j v hj
      have gr : H' pr = some (.lst (rs.map V.ref)) := sH _ _ gr6
      have er : ExL cs x y H' 0 rs := er6.same sH
      have gn' : H' pn = some (.lst (nms.map V.str)) := sH _ _ gn6
      have itm : ∀ (k : Nat) (v : V), (rs.map V.ref)[k]? = some v → ∃ r, v = .ref r ∧ rs[k]? = some r ∧ k < 31 ∧ ExA H' r (cs k) (fsI k x y) := fun k v hk => by
        rw [List.getElem?_map] at hk
        cases hr0 : rs[k]? with
        | none =>
          rw [hr0] at hk
          cases hk
        | some r =>
          rw [hr0] at hk
          cases hk
          have z := er.get hr0
          rw [Nat.zero_add] at z
          exact ⟨r, rfl, rfl, by rw [← lr]; exact (List.getElem?_eq_some_iff.mp hr0).1, z⟩
      refine ⟨_, rfl, pr, rfl, ⟨_, SqL.of gr⟩, fun D1 hD1 => lc_list (K := K) (a := pr) (xs := rs.map V.ref) (fun k H'' => Same H' H'' ∧ H'' D1 = some (.lst ((nms.take k).map V.str))) ⟨upd_stay rfl hD1, upd_same⟩ (fun k H'' _ ⟨z, _⟩ => SqL.of (z _ _ gr)) (fun k v H'' hk ⟨sk, gk⟩ => ?_) (fun H'' ⟨sk, gk⟩ => ?_)⟩
      · obtain ⟨r, rfl, hr0, hk31, HA⟩ := itm k v hk
        refine ⟨rfl, _, rfl, r, k, _, rfl, hk31, HA.same sk, fun H4 s4 => ⟨_, s4 _ _ gk, ?_, ?_, ?_⟩⟩
        · rw [List.length_map, List.length_take]
          exact Nat.lt_of_le_of_lt (Nat.min_le_right _ _) (by decide)
        · intro b o e
          have nb : b ≠ D1 := ne_of_none e hD1
          rw [upd_ne nb]
          exact s4 _ _ (sk _ _ e)
        · rw [upd_same, List.take_add_one, nms_get k hk31, List.map_append]
          rfl
      have gk1 : H'' D1 = some (.lst (nms.map V.str)) := by
        rw [List.length_map, lr] at gk
        rw [gk, show nms.take 31 = nms from rfl]
      refine ⟨_, rfl, .list (nms.map PyData.str), .list (nms.map PyData.str), .lst (SqL.of gk1) (strDp _), .lst (SqL.of (sk _ _ gn')) (strDp _), nmsS, nmsS, _, rfl, ?_⟩
      rw [nmsD]
      refine ite2 (fun z => absurd z (by decide)) (fun _ => ?_)
      refine ⟨_, rfl, pn, _, rfl, .inl (SqL.of (sk _ _ gn')), _, rfl, (by decide), (by decide), for_range (lo := 0) (n := 31) (fun k σ HK => Same H'' HK ∧ ∃ w5 w6, σ = [some (.ref a), some x, some y, some (.ref pn), some (.ref pr), w5, w6, w7])
        ⟨Same.refl _, _, _, rfl⟩ ?_ ?_⟩
      · rintro i σ HK hi ⟨sK, w5, w6, rfl⟩
        obtain ⟨r, hrv, hr0, HA0⟩ : ∃ r, (rs.map V.ref)[i]? = some (.ref r) ∧ rs[i]? = some r ∧ ExA H' r (cs i) (fsI i x y) := by
          have hlt : i < (rs.map V.ref).length := by rw [List.length_map, lr]; exact hi
          obtain ⟨r, e, hr0, _, HA⟩ := itm i _ (List.getElem?_eq_getElem hlt)
          exact ⟨r, by rw [List.getElem?_eq_getElem hlt, e], hr0, HA⟩
        have S0 : Same H2 HK := Same.tr S26 (Same.tr sH (Same.tr sk sK))
        have SHK : Same H' HK := Same.tr sk sK
        have HA : ExA HK r (cs i) (fsI i x y) := HA0.same SHK
        have gnK : HK pn = some (.lst (nms.map V.str)) := SHK _ _ gn'
        have grK : HK pr = some (.lst (rs.map V.ref)) := SHK _ _ gr
        have ei : ((i : Nat) : Int) = 0 + (i : Int) := by omega
        have atw : atI (nms.map V.str) (0 + (i : Int)) = some (.str (nm i)) := by rw [← ei]; exact atI_nat (nms_at i hi)
        have atr : atI (rs.map V.ref) (0 + (i : Int)) = some (.ref r) := by rw [← ei]; exact atI_nat hrv
        have fin : ∀ (HZ : Hp) (pd : Addr), Same HK HZ → HZ pd = some (.tup (dueV i x y)) → ∀ pf Hf, Same HZ Hf → Hf pf = some (.tup (dueV i x y)) →
            (Sd Hf (.ref pf) (.tuple (dueD i dx dy)) ∧ Sd Hf (.ref pd) (.tuple (dueD i dx dy))) ∧ ((PyData.tuple (dueD i dx dy)).showable = true ∧ (PyData.tuple (dueD i dx dy)).depth ≤ 8 ∧ (PyData.tuple (dueD i dx dy)).shown.length ≤ sizeLine) := fun HZ pd U gd pf Hf sf gf => by
          have okd := due_ok hi mx my
          simp only [okD, Bool.and_eq_true, decide_eq_true_eq] at okd
          obtain ⟨o1, o2, o3⟩ := okd
          have sX : Sd Hf x dx := SX0.same fun b o e => sf _ _ (U _ _ (S0 _ _ e))
          have sY : Sd Hf y dy := SY0.same fun b o e => sf _ _ (U _ _ (S0 _ _ e))
          exact ⟨⟨due_sd hi gf sX sY, due_sd hi (sf _ _ gd) sX sY⟩, o1, o2, Nat.le_trans o3 (by decide)⟩
        refine ⟨_, rfl, (by show 1 ≤ sizeLine; decide), fun p1 n1 => ?_⟩
        generalize hh : upd HK p1 _ = K1
        have gd1 : K1 p1 = some (.tup [x]) := upd_got hh
        have u1 := upd_stay hh n1
        clear hh
        refine ⟨_, rfl, _, rfl, pn, _, _, _, rfl, rfl, SqL.of (u1 _ _ gnK), atw, (by show 2 ≤ sizeLine; decide), fun p2 n2 => ?_⟩
        generalize hh : upd K1 p2 _ = K2
        have gt2 : K2 p2 = some (.lst [.str "NotUndoable", .str "Broken"]) := upd_got hh
        have u2 := upd_stay hh n2
        clear hh
        refine ⟨p2, _, rfl, .inl (SqL.of gt2), rfl, rfl, _, rfl, ?_⟩
        refine ite2 (fun hc => ?_) (fun hc => ?_)
        · have e := (by decide +kernel : ∀ i, i < 31 → inV (.str (nm i)) [.str "NotUndoable", .str "Broken"] = true → (fl i).length = 2 ∧ inV (.str (nm i)) [.str "DividedByZero", .str "Ended", .str "NothingToUndo"] = false) i hi hc
          have ed : dueV i x y = [x, y] := by
            unfold dueV
            rcases fl_two i hi e.1 with z | z <;> rw [z]
          refine ⟨_, rfl, _, rfl, (by show 2 ≤ sizeLine; decide), fun p3 n3 => ?_⟩
          generalize hh : upd K2 p3 _ = K3
          have gd3 : K3 p3 = some (.tup [x, y]) := upd_got hh
          have u3 := upd_stay hh n3
          clear hh
          rw [← ed] at gd3
          refine ⟨_, rfl, _, rfl, pn, _, _, _, rfl, rfl, SqL.of (u3 _ _ (u2 _ _ (u1 _ _ gnK))), atw, (by show 3 ≤ sizeLine; decide), fun p4 n4 => ?_⟩
          generalize hh : upd K3 p4 _ = K4
          have gt4 : K4 p4 = some (.lst [.str "DividedByZero", .str "Ended", .str "NothingToUndo"]) := upd_got hh
          have u4 := upd_stay hh n4
          clear hh
          refine ⟨p4, _, rfl, .inl (SqL.of gt4), rfl, rfl, _, rfl, ?_⟩
          refine ite2 (fun z => absurd (e.2.symm.trans z) (by decide)) (fun _ => ?_)
          have U : Same HK K4 := Same.tr u1 (Same.tr u2 (Same.tr u3 u4))
          have gd : K4 p3 = some (.tup (dueV i x y)) := u4 _ _ gd3
          refine ⟨_, rfl, _, rfl, pr, _, _, _, rfl, rfl, SqL.of (U _ _ grK), atr, _, rfl, _, rfl, pn, _, _, _, rfl, rfl, SqL.of (U _ _ gnK), atw, r, i, fsI i x y, dueV i x y, rfl, hi, HA.same U, due_look i hi x y, fun pf Hf gf sf => ?_⟩
          obtain ⟨⟨d1, d2⟩, o1, o2, o3⟩ := fin K4 p3 U gd pf Hf gf sf
          refine ⟨pf, _, rfl, d1, o1, o2, o3, _, rfl, _, _, rfl, d2, o1, o2, o3, rfl, _, rfl, ?_⟩
          refine ite2 (fun z => absurd z (by simp)) (fun _ => ?_)
          exact ⟨Same.tr sK (Same.tr U gf), _, _, rfl⟩
        · refine ⟨_, rfl, _, rfl, pn, _, _, _, rfl, rfl, SqL.of (u2 _ _ (u1 _ _ gnK)), atw, (by show 3 ≤ sizeLine; decide), fun p4 n4 => ?_⟩
          generalize hh : upd K2 p4 _ = K4
          have gt4 : K4 p4 = some (.lst [.str "DividedByZero", .str "Ended", .str "NothingToUndo"]) := upd_got hh
          have u4 := upd_stay hh n4
          clear hh
          refine ⟨p4, _, rfl, .inl (SqL.of gt4), rfl, rfl, _, rfl, ?_⟩
          refine ite2 (fun hc2 => ?_) (fun hc2 => ?_)
          · have e := (by decide +kernel : ∀ i, i < 31 → inV (.str (nm i)) [.str "DividedByZero", .str "Ended", .str "NothingToUndo"] = true → fl i = []) i hi hc2
            have ed : dueV i x y = [] := by unfold dueV; rw [e]
            refine ⟨(by show 0 ≤ sizeLine; decide), fun p3 n3 => ?_⟩
            generalize hh : upd K4 p3 _ = K5
            have gd : K5 p3 = some (.tup []) := upd_got hh
            have u5 := upd_stay hh n3
            clear hh
            rw [← ed] at gd
            have U : Same HK K5 := Same.tr u1 (Same.tr u2 (Same.tr u4 u5))
            refine ⟨_, rfl, _, rfl, pr, _, _, _, rfl, rfl, SqL.of (U _ _ grK), atr, _, rfl, _, rfl, pn, _, _, _, rfl, rfl, SqL.of (U _ _ gnK), atw, r, i, fsI i x y, dueV i x y, rfl, hi, HA.same U, due_look i hi x y, fun pf Hf gf sf => ?_⟩
            obtain ⟨⟨d1, d2⟩, o1, o2, o3⟩ := fin K5 p3 U gd pf Hf gf sf
            refine ⟨pf, _, rfl, d1, o1, o2, o3, _, rfl, _, _, rfl, d2, o1, o2, o3, rfl, _, rfl, ?_⟩
            refine ite2 (fun z => absurd z (by simp)) (fun _ => ?_)
            exact ⟨Same.tr sK (Same.tr U gf), _, _, rfl⟩
          · have e := (((by decide +kernel : ∀ i, i < 31 → inV (.str (nm i)) [.str "NotUndoable", .str "Broken"] = true ∨ inV (.str (nm i)) [.str "DividedByZero", .str "Ended", .str "NothingToUndo"] = true ∨ (fl i).length = 1) i hi).resolve_left hc).resolve_left hc2
            obtain ⟨f1, ef⟩ := List.length_eq_one_iff.mp e
            have ed : dueV i x y = [x] := by unfold dueV; rw [ef]
            have U : Same HK K4 := Same.tr u1 (Same.tr u2 u4)
            have gd : K4 p1 = some (.tup (dueV i x y)) := by rw [ed]; exact u4 _ _ (u2 _ _ gd1)
            refine ⟨_, rfl, _, rfl, pr, _, _, _, rfl, rfl, SqL.of (U _ _ grK), atr, _, rfl, _, rfl, pn, _, _, _, rfl, rfl, SqL.of (U _ _ gnK), atw, r, i, fsI i x y, dueV i x y, rfl, hi, HA.same U, due_look i hi x y, fun pf Hf gf sf => ?_⟩
            obtain ⟨⟨d1, d2⟩, o1, o2, o3⟩ := fin K4 p1 U gd pf Hf gf sf
            refine ⟨pf, _, rfl, d1, o1, o2, o3, _, rfl, _, _, rfl, d2, o1, o2, o3, rfl, _, rfl, ?_⟩
            refine ite2 (fun z => absurd z (by simp)) (fun _ => ?_)
            exact ⟨Same.tr sK (Same.tr U gf), _, _, rfl⟩
      · rintro σ HK ⟨sK, w5, w6, rfl⟩
        have SHK : Same H' HK := Same.tr sk sK
        refine ⟨_, rfl, pr, rfl, ⟨_, SqL.of (SHK _ _ gr)⟩, fun E1 hE1 => lc_list (K := K) (a := pr) (xs := rs.map V.ref) (fun k HJ => Same HK HJ ∧ HJ E1 = some (.lst [])) ⟨upd_stay rfl hE1, upd_same⟩ (fun k HJ _ ⟨z, _⟩ => SqL.of (z _ _ (SHK _ _ gr))) (fun k v HJ hk ⟨sj, gj⟩ => ?_) (fun M1 ⟨sj1, gj1⟩ => ?_)⟩
        · obtain ⟨r, rfl, hr0, hk31, HA⟩ := itm k v hk
          have HB := HA.same (Same.tr SHK sj)
          exact ⟨rfl, _, rfl, r, cs k, _, _, _, _, rfl, .ty _, HB, T.ex k hk31, T.kitF k 0 hk31 (by decide), _, rfl, iteF ⟨_, rfl, r, cs k, _, _, _, _, rfl, .ty _, HB, T.ex k hk31, T.kitF k 1 hk31 (by decide), _, rfl, iteF ⟨sj, gj⟩⟩⟩
        refine ⟨(by show 0 ≤ sizeLine; decide), fun q1 m1 => ⟨.list [], .list [], .lst (SqL.of (upd_stay rfl m1 _ _ gj1)) .nil, .lst (SqL.of upd_same) .nil, (by decide), (by decide), _, rfl, ?_⟩⟩
        rw [show PyData.eqv (.list []) (.list []) = true by decide +kernel]
        refine iteF ?_
        generalize hh : upd M1 q1 _ = M2
        have uM := upd_stay hh m1
        have SM : Same H' M2 := Same.tr SHK (Same.tr sj1 uM)
        clear hh
        refine ⟨_, rfl, pr, rfl, ⟨_, SqL.of (SM _ _ gr)⟩, fun E2 hE2 => lc_list (K := K) (a := pr) (xs := rs.map V.ref) (fun k HJ => Same M2 HJ ∧ HJ E2 = some (.lst [])) ⟨upd_stay rfl hE2, upd_same⟩ (fun k HJ _ ⟨z, _⟩ => SqL.of (z _ _ (SM _ _ gr))) (fun k v HJ hk ⟨sj, gj⟩ => ?_) (fun M3 ⟨sj2, gj2⟩ => ?_)⟩
        · obtain ⟨r, rfl, hr0, hk31, HA⟩ := itm k v hk
          have HB := HA.same (Same.tr SM sj)
          exact ⟨rfl, _, rfl, r, cs k, _, _, _, _, rfl, .ty _, HB, T.ex k hk31, T.kitF k 2 hk31 (by decide), _, rfl, iteF ⟨_, rfl, r, cs k, _, _, _, _, rfl, .ty _, HB, T.ex k hk31, T.kitF k 3 hk31 (by decide), _, rfl, iteF ⟨sj, gj⟩⟩⟩
        refine ⟨(by show 0 ≤ sizeLine; decide), fun q2 m2 => ⟨.list [], .list [], .lst (SqL.of (upd_stay rfl m2 _ _ gj2)) .nil, .lst (SqL.of upd_same) .nil, (by decide), (by decide), _, rfl, ?_⟩⟩
        rw [show PyData.eqv (.list []) (.list []) = true by decide +kernel]
        refine iteF ?_
        exact ⟨Same.tr sH (Same.tr SM (Same.tr sj2 (upd_stay rfl m2))), _, _, _, _, rfl⟩
    · rintro σ H' ⟨sH, w4, w5, w6, w7, rfl⟩
      obtain ⟨z1, z2, z3, ez⟩ := s2
      exact q H' ⟨z1, z2, z3, sH _ _ (S26 _ _ ez)⟩ fun b o nb e => sH _ _ (S26 _ _ (k2 _ _ nb (k1 _ _ nb e)))
end
end T01

namespace T01
open PySem PySem.Spec PyProof.Rows L2 SF SX
abbrev sLaw : Stmt := top 57
structure Blt2 (mg : Str → Option Value) : Prop extends Blt mg where
  range : mg "range" = none
  max : mg "max" = none
  min : mg "min" = none
structure Lim (mg : Str → Option Value) (t : Nat → Tok) : Prop where
  m0 : mg "MOST_SIZE" = some (.int 60 (t 0))
  m1 : mg "MOST_LEVELS" = some (.int 20 (t 1))
  m2 : mg "MOST_LEAD" = some (.int 8 (t 2))
  m3 : mg "MOST_LOAD" = some (.int 65536 (t 3))
  m4 : mg "MOST_WIDTH" = some (.int 64 (t 4))
  m5 : mg "MOST_SHIFT" = some (.int 8 (t 5))
  m6 : mg "MOST_WINDOW" = some (.int 7 (t 6))
  m7 : mg "MOST_SEASON" = some (.int 12 (t 7))
section
variable {P : Program} {w : World} {K : PySem.W.Frag} {mg : Str → Option Value} {base : Heap} {cs bs : Nat → Addr} {H H' : Hp} {fI : Nat → Addr} {fdI : Nat → FuncData} {t : Nat → Tok}
theorem SrcAt.new2 {a p : Addr} {o : HO} (s : SrcAt H a) (n : H p = none) : SrcAt (upd H p o) a := by
  obtain ⟨x, y, z, e⟩ := s
  exact ⟨x, y, z, by rw [upd_ne (ne_of_none e n)]; exact e⟩
theorem scLaw : FnScope ["_law_cells", "_law_limits", "_law_k", "_law_source_here"] ["_law_cells"] (defScope sLaw) := ⟨rfl, rfl, rfl, by decide +kernel, rfl, by decide +kernel, by decide +kernel⟩
def spLaw (K : PySem.W.Frag) : Sp := fun vs H Q _ => ∃ (a : Addr) (ns : List Int), vs = [.ref a] ∧ SqL K H a (ns.map V.int) ∧ ns.length ≤ 63 ∧ ∀ H', Q (.bl true) H'
def limD : PyData := .list [.int 60, .int 20, .int 8, .int 65536, .int 64, .int 8, .int 7, .int 12]
theorem limS : limD.shown = Str.ofString "[60, 20, 8, 65536, 64, 8, 7, 12]" := by decide +kernel
theorem ok_law {f fS fC fR : Addr} {fd fdS fdC fdR : FuncData} (F : Fun K "law" "law" sLaw f fd) (T2 : Blt2 mg) (R : Blt3 mg) (L : Lim mg t)
    (FS : Fun K "_law_source" "_law_source" sSource fS fdS) (bS : Binds K fdS ["_law_cell_here"] []) (gS : mg "_law_source" = some (.ref fS))
    (FC : Fun K "_law_cell" "_law_cell" sCell fC fdC) (bC : Binds K fdC ["_law_cells", "_law_k"] []) (gC : mg "_law_cell" = some (.ref fC))
    (FR : Fun K "_law_right" "_law_right" sRight fR fdR) (GR : FnG P w K mg base CX0 4 fR fdR ["_law_source_here"] spRight) (bR : Binds K fdR ["_law_source_here"] []) (gR : mg "_law_right" = some (.ref fR)) :
    FnG P w K mg base CX0 5 f fd ["_law_cells"] (spLaw K) := by
  have GS : FnOk P w K mg base CX0 1 fS fdS ["_law_cell_here"] spSource := ok_source FS T2.toBlt
  have GC : FnOk P w K mg base CX0 1 fC fdC ["_law_cells", "_law_k"] (spCell K) := ok_cell FC T2.toBlt
  refine okG F scLaw (fun vs H Q E h => ?_) (fun cdv A outer s H vs Q E hgd hr h => ?_)
  · obtain ⟨a, ns, rfl, _⟩ := h
    rfl
  · obtain ⟨a, ns, rfl, hS, hlen, q⟩ := h
    have hr1 : Room 1 (A.deeper (envOfC "law" (defScope sLaw) s.heap.objs.size f cdv)) := hr.mono (by decide)
    refine ⟨_, (pss_cons (ps_set (i := 1) scLaw.nd rfl (.inl rfl) (pe_lstS (pa_cons (pe_glob (v := .int 60) (by rfl) L.m0 ⟨_, rfl⟩) (pa_cons (pe_glob (v := .int 20) (by rfl) L.m1 ⟨_, rfl⟩) (pa_cons (pe_glob (v := .int 8) (by rfl) L.m2 ⟨_, rfl⟩) (pa_cons (pe_glob (v := .int 65536) (by rfl) L.m3 ⟨_, rfl⟩) (pa_cons (pe_glob (v := .int 64) (by rfl) L.m4 ⟨_, rfl⟩) (pa_cons (pe_glob (v := .int 8) (by rfl) L.m5 ⟨_, rfl⟩) (pa_cons (pe_glob (v := .int 7) (by rfl) L.m6 ⟨_, rfl⟩) (pa_cons (pe_glob (v := .int 12) (by rfl) L.m7 ⟨_, rfl⟩) pa_nil))))))))))
      (pss_cons (ps_if (pt_cmpR op_ne (pe_callB (call_reprS hgd hr) (by rfl) R.repr_ (by decide +kernel) (pa_cons (pv 1) pa_nil)) pe_str (nomark _)) (pss_one (ps_ret pe_bl)) pss_nil)
      (pss_cons (ps_for PassesOwn.never rfl (pi_range1 rfl T2.range (pa_cons (pe_callB (call_max2 rfl) (by rfl) T2.max (by decide +kernel) (pa_cons pe_int (pa_cons (pe_callB (call_min2 rfl) (by rfl) T2.min (by decide +kernel) (pa_cons (pe_callB call_len_seq (by rfl) T2.len (by decide +kernel) (pa_cons (pv 0) pa_nil)) (pa_cons pe_int pa_nil))) pa_nil))) pa_nil)) (pg_name (i := 2) scLaw.nd rfl (.inl rfl)) (pss_cons (ps_set (i := 3) scLaw.nd rfl (.inl rfl) (pe_call GS hr1 (by rfl) gS FS.kp bS .nil pass0 (pa_cons (pe_call GC hr1 (by rfl) gC FC.kp bC .nil pass0 (pa_cons (pv 0) (pa_cons (pv 2) pa_nil))) pa_nil)))
      (pss_one (ps_if (PW.pt (pw_or (pt_not (pt_val (pe_callG GR hgd hr (by rfl) gR FR.kp bR .nil pass0 (pa_cons (pv 3) pa_nil)))) (pw_or1 (pt_not (pt_val (pe_callG GR hgd hr (by rfl) gR FR.kp bR .nil pass0 (pa_cons (pv 3) pa_nil))))))) (pss_one (ps_ret pe_bl)) pss_nil))))
      (pss_one (ps_ret pe_bl))))), ?_⟩
    refine ⟨(by show 8 ≤ sizeLine; decide), fun p1 n1 z1 => ?_⟩
    generalize hh : upd H p1 _ = H1
    have g1 := upd_got hh
    have y1 := upd_stay hh n1
    clear hh
    refine ⟨_, rfl, p1, limD, rfl, .lst z1 g1 (.cons (.int _) (.cons (.int _) (.cons (.int _) (.cons (.int _) (.cons (.int _) (.cons (.int _) (.cons (.int _) (.cons (.int _) .nil)))))))), by decide +kernel, by decide +kernel, (by rw [limS]; decide +kernel), rfl, _, rfl, ?_⟩
    rw [limS]
    refine ite2 (fun z => absurd z (by decide +kernel)) (fun _ => ?_)
    have hS1 : SqL K H1 a (ns.map V.int) := (show Same H H1 from y1).seq hS
    have eln : ((ns.map V.int).length : Int) = (ns.length : Int) := by rw [List.length_map]
    obtain ⟨N, hN, n0, n8⟩ : ∃ N : Int, (if (if (6 : Int) < ((ns.map V.int).length : Int) then (6 : Int) else ((ns.map V.int).length : Int)) > 2 then (if (6 : Int) < ((ns.map V.int).length : Int) then (6 : Int) else ((ns.map V.int).length : Int)) else 2) = N ∧ 0 ≤ N ∧ N ≤ 6 := by
      refine ⟨_, rfl, ?_, ?_⟩
      · split <;> split <;> omega
      · split <;> split <;> omega
    refine ⟨_, rfl, a, _, rfl, .inl hS1, _, _, rfl, 2, _, rfl, N, by rw [← hN], by omega, by omega, for_range (lo := 0) (n := N.toNat) (fun i σ H' => Same H1 H' ∧ ∃ w2 w3, σ = [some (.ref a), some (.ref p1), w2, w3]) ⟨Same.refl _, none, none, rfl⟩ ?_ ?_⟩
    · rintro i σ H' hi ⟨zH, w2, w3, rfl⟩
      have hi8 : (i : Int) < 6 := by omega
      refine ⟨_, rfl, _, rfl, a, ns, 0 + (i : Int), rfl, zH.seq hS1, hlen, by omega, by omega, fun c J1 zc => ?_⟩
      refine ⟨c, rfl, fun p J2 hp zs hsrc => ?_⟩
      have hp0 : H1 p = none := (zH.trans zc).free hp
      have keep : ∀ J3, But p J2 J3 → Same H1 J3 := fun J3 k b o e => k b o (ne_of_none e hp0) (zs _ _ (zc _ _ (zH _ _ e)))
      refine ⟨_, rfl, p, rfl, hsrc, fun J3 s3 k3 => ⟨_, rfl, iteF ⟨_, rfl, p, rfl, s3, fun J4 s4 k4 => ⟨_, rfl, iteF ⟨keep _ (k3.trans k4), _, _, rfl⟩⟩⟩⟩⟩
    · rintro σ H' ⟨zH, w2, w3, rfl⟩
      exact q _
end
end T01

namespace T01
open PySem PySem.Spec PyProof.Rows L2 SF SX SH
theorem bnd {a b : Bool} (h : (a && b) = true) : a = true ∧ b = true := Bool.and_eq_true_iff.mp h
def exB (K : PySem.W.Frag) (D : Addr) : Bool := decide (PySem.W.findIn K (.ref D) "__getattribute__" = some (some (.builtin "BaseException.__getattribute__"))) && (decide (PySem.W.findIn K (.ref D) "__getattr__" = some none) && (decide (PySem.W.subIn K (.ref D) (.type "BaseException") = some true) && (PySem.W.hasDictIn K D &&
  (decide (PySem.W.findIn K (.ref D) "__class__" = some (some (.builtin "object.__class__"))) && (decide (PySem.W.specialIn K (.builtin "object.__class__") "__get__" = some (some (.builtin "getset_descriptor.__get__"))) && (decide (PySem.W.takesIn K (.builtin "object.__class__") = some true) && decide (PySem.W.mroIn K D (.type "object") = some true)))))))
theorem exB_ok {K : PySem.W.Frag} {D : Addr} (h : exB K D = true) : ExcC K D ∧ XfC K D := by
  obtain ⟨h1, h⟩ := bnd h
  obtain ⟨h2, h⟩ := bnd h
  obtain ⟨h3, h⟩ := bnd h
  obtain ⟨h4, h⟩ := bnd h
  obtain ⟨h5, h⟩ := bnd h
  obtain ⟨h6, h⟩ := bnd h
  obtain ⟨h7, h8⟩ := bnd h
  exact ⟨⟨of_decide_eq_true h1, of_decide_eq_true h2, of_decide_eq_true h3, h4, of_decide_eq_true h5, of_decide_eq_true h6, of_decide_eq_true h7, of_decide_eq_true h8⟩, ⟨of_decide_eq_true h1, of_decide_eq_true h2, of_decide_eq_true h3, h4⟩⟩
def noB (K : PySem.W.Frag) (D : Addr) : Bool := fnames.all fun f => decide (PySem.W.findIn K (.ref D) f = some none)
/-- base, its makers, its line of bases -/
def bms : List (String × List Value) := [("ValueError.__new__", [.type "ValueError", .type "Exception", .type "BaseException", .type "object"]), ("LookupError.__new__", [.type "LookupError", .type "Exception", .type "BaseException", .type "object"]), ("ArithmeticError.__new__", [.type "ArithmeticError", .type "Exception", .type "BaseException", .type "object"])]
def mkB (K : PySem.W.Frag) (D : Addr) (b : String × List Value) : Bool := PySem.W.excInitIn K D b.2 b.1 && (PySem.W.excOver K D b.2 && (PySem.W.hasDictIn K D && (decide (PySem.W.findIn K (.ref D) "__setattr__" = some (some (.builtin "object.__setattr__"))) && PySem.W.keepIn K (.ref D))))
theorem mkB_ok {K : PySem.W.Frag} {D : Addr} {B newId initId : String} {bmB : List Value} (F : ExcBaseFacts B newId initId bmB) (S : StoreFacts B bmB "object.__setattr__" "object") (h : mkB K D (newId, bmB) = true) : ExK K D := by
  obtain ⟨h1, h⟩ := bnd h
  obtain ⟨h2, h⟩ := bnd h
  obtain ⟨h3, h⟩ := bnd h
  obtain ⟨h4, h5⟩ := bnd h
  exact ⟨⟨B, newId, initId, bmB, F, S, h1, h2⟩, h3, of_decide_eq_true h4, h5⟩
def nxB (K : PySem.W.Frag) (D : Addr) (b : String × List Value) : Bool := PySem.W.excIn K D b.2 b.1 && PySem.W.keepIn K (.ref D)
def upTo (n : Nat) (p : Nat → Bool) : Bool := (List.range n).all p
theorem upTo_ok {n : Nat} {p : Nat → Bool} (h : upTo n p = true) : ∀ i, i < n → p i = true := fun i hi => List.all_eq_true.mp h i (List.mem_range.mpr hi)
def tabB (K : PySem.W.Frag) (cs bs : List Addr) : Bool :=
  upTo 31 (fun i => exB K (cs.getD i 0)) && (upTo 31 (fun i => noB K (cs.getD i 0)) && (upTo 31 (fun i => upTo 31 fun j => decide (PySem.W.kitOne K (.ref (cs.getD i 0)) (.ref (cs.getD j 0)) = some (decide (i = j)))) &&
  (upTo 31 (fun i => upTo 3 fun j => decide (PySem.W.kitOne K (.ref (cs.getD i 0)) (.ref (bs.getD j 0)) = some (decide (bas i = j)))) && (upTo 31 (fun i => upTo 3 fun j => decide (PySem.W.kitOne K (.ref (cs.getD i 0)) (.type (tps.getD j "")) = some (decide (bas i = j)))) &&
  (upTo 31 (fun i => upTo 4 fun j => decide (PySem.W.kitOne K (.ref (cs.getD i 0)) (.type (fars.getD j "")) = some false)) && upTo 31 (fun i => if fl i = [] then nxB K (cs.getD i 0) (bms.getD (bas i) ("", [])) else mkB K (cs.getD i 0) (bms.getD (bas i) ("", []))))))))

def d0 : He.DefD := ⟨("_law_cell", none), "_law_cell", "_law_cell", defArgs sCell, defBody sCell, defScope sCell, [], []⟩
def d1 : He.DefD := ⟨("_law_source", none), "_law_source", "_law_source", defArgs sSource, defBody sSource, defScope sSource, [], []⟩
def d2 : He.DefD := ⟨("_law_draw", none), "_law_draw", "_law_draw", defArgs sDraw, defBody sDraw, defScope sDraw, [], []⟩
def d3 : He.DefD := ⟨("_law_given", none), "_law_given", "_law_given", defArgs sGiven, defBody sGiven, defScope sGiven, [], []⟩
def d4 : He.DefD := ⟨("_law_of_names", none), "_law_of_names", "_law_of_names", defArgs sOfNames, defBody sOfNames, defScope sOfNames, [], []⟩
def d5 : He.DefD := ⟨("_law_of_answers", none), "_law_of_answers", "_law_of_answers", defArgs sOfAnswers, defBody sOfAnswers, defScope sOfAnswers, [], []⟩
def d6 : He.DefD := ⟨("_law_word", none), "_law_word", "_law_word", defArgs sWord, defBody sWord, defScope sWord, [], []⟩
def d7 : He.DefD := ⟨("_law_fields", none), "_law_fields", "_law_fields", defArgs sFields, defBody sFields, defScope sFields, [], []⟩
def d8 : He.DefD := ⟨("_law_odd", none), "_law_odd", "_law_odd", defArgs sOdd, defBody sOdd, defScope sOdd, [], []⟩
def d9 : He.DefD := ⟨("_law_names_of_classes", none), "_law_names_of_classes", "_law_names_of_classes", defArgs sNames, defBody sNames, defScope sNames, [], []⟩
def d10 : He.DefD := ⟨("_law_made", none), "_law_made", "_law_made", defArgs sMade, defBody sMade, defScope sMade, [], []⟩
def d11 : He.DefD := ⟨("_law_named", none), "_law_named", "_law_named", defArgs sNamed, defBody sNamed, defScope sNamed, [], []⟩
def d12 : He.DefD := ⟨("_law_right", none), "_law_right", "_law_right", defArgs sRight, defBody sRight, defScope sRight, [], []⟩
def d13 : He.DefD := ⟨("law", none), "law", "law", defArgs sLaw, defBody sLaw, defScope sLaw, [], []⟩
def d14 : He.DefD := ⟨("InvalidNumber", some "__init__"), "__init__", "InvalidNumber.__init__", defArgs sI0, defBody sI0, defScope sI0, [], []⟩
def d15 : He.DefD := ⟨("InvalidText", some "__init__"), "__init__", "InvalidText.__init__", defArgs sI1, defBody sI1, defScope sI1, [], []⟩
def d16 : He.DefD := ⟨("InvalidCount", some "__init__"), "__init__", "InvalidCount.__init__", defArgs sI2, defBody sI2, defScope sI2, [], []⟩
def d17 : He.DefD := ⟨("InvalidName", some "__init__"), "__init__", "InvalidName.__init__", defArgs sI3, defBody sI3, defScope sI3, [], []⟩
def d18 : He.DefD := ⟨("InvalidTruth", some "__init__"), "__init__", "InvalidTruth.__init__", defArgs sI4, defBody sI4, defScope sI4, [], []⟩
def d19 : He.DefD := ⟨("InvalidEntries", some "__init__"), "__init__", "InvalidEntries.__init__", defArgs sI5, defBody sI5, defScope sI5, [], []⟩
def d20 : He.DefD := ⟨("InvalidData", some "__init__"), "__init__", "InvalidData.__init__", defArgs sI6, defBody sI6, defScope sI6, [], []⟩
def d21 : He.DefD := ⟨("InvalidLength", some "__init__"), "__init__", "InvalidLength.__init__", defArgs sI7, defBody sI7, defScope sI7, [], []⟩
def d22 : He.DefD := ⟨("InvalidPath", some "__init__"), "__init__", "InvalidPath.__init__", defArgs sI8, defBody sI8, defScope sI8, [], []⟩
def d23 : He.DefD := ⟨("InvalidClaim", some "__init__"), "__init__", "InvalidClaim.__init__", defArgs sI9, defBody sI9, defScope sI9, [], []⟩
def d24 : He.DefD := ⟨("InvalidIndex", some "__init__"), "__init__", "InvalidIndex.__init__", defArgs sI10, defBody sI10, defScope sI10, [], []⟩
def d25 : He.DefD := ⟨("NotAFormula", some "__init__"), "__init__", "NotAFormula.__init__", defArgs sI11, defBody sI11, defScope sI11, [], []⟩
def d26 : He.DefD := ⟨("NotASeries", some "__init__"), "__init__", "NotASeries.__init__", defArgs sI12, defBody sI12, defScope sI12, [], []⟩
def d27 : He.DefD := ⟨("NotARunner", some "__init__"), "__init__", "NotARunner.__init__", defArgs sI13, defBody sI13, defScope sI13, [], []⟩
def d28 : He.DefD := ⟨("TextError", some "__init__"), "__init__", "TextError.__init__", defArgs sI14, defBody sI14, defScope sI14, [], []⟩
def d29 : He.DefD := ⟨("UnknownName", some "__init__"), "__init__", "UnknownName.__init__", defArgs sI15, defBody sI15, defScope sI15, [], []⟩
def d30 : He.DefD := ⟨("Taken", some "__init__"), "__init__", "Taken.__init__", defArgs sI16, defBody sI16, defScope sI16, [], []⟩
def d31 : He.DefD := ⟨("InUse", some "__init__"), "__init__", "InUse.__init__", defArgs sI17, defBody sI17, defScope sI17, [], []⟩
def d32 : He.DefD := ⟨("Circular", some "__init__"), "__init__", "Circular.__init__", defArgs sI18, defBody sI18, defScope sI18, [], []⟩
def d33 : He.DefD := ⟨("Clash", some "__init__"), "__init__", "Clash.__init__", defArgs sI19, defBody sI19, defScope sI19, [], []⟩
def d34 : He.DefD := ⟨("NoSeries", some "__init__"), "__init__", "NoSeries.__init__", defArgs sI20, defBody sI20, defScope sI20, [], []⟩
def d35 : He.DefD := ⟨("NoEntry", some "__init__"), "__init__", "NoEntry.__init__", defArgs sI21, defBody sI21, defScope sI21, [], []⟩
def d36 : He.DefD := ⟨("NotMade", some "__init__"), "__init__", "NotMade.__init__", defArgs sI22, defBody sI22, defScope sI22, [], []⟩
def d37 : He.DefD := ⟨("TooLarge", some "__init__"), "__init__", "TooLarge.__init__", defArgs sI24, defBody sI24, defScope sI24, [], []⟩
def d38 : He.DefD := ⟨("TooHeavy", some "__init__"), "__init__", "TooHeavy.__init__", defArgs sI25, defBody sI25, defScope sI25, [], []⟩
def d39 : He.DefD := ⟨("NotUndoable", some "__init__"), "__init__", "NotUndoable.__init__", defArgs sI26, defBody sI26, defScope sI26, [], []⟩
def d40 : He.DefD := ⟨("NoWay", some "__init__"), "__init__", "NoWay.__init__", defArgs sI27, defBody sI27, defScope sI27, [], []⟩
def d41 : He.DefD := ⟨("Broken", some "__init__"), "__init__", "Broken.__init__", defArgs sI30, defBody sI30, defScope sI30, [], []⟩
def fnL : List He.DefD := [d0, d1, d2, d3, d4, d5, d6, d7, d8, d9, d10, d11, d12, d13, d14, d15, d16, d17, d18, d19, d20, d21, d22, d23, d24, d25, d26, d27, d28, d29, d30, d31, d32, d33, d34, d35, d36, d37, d38, d39, d40, d41]
def faA : List He.Fa := [.glo "InvalidNumber", .glo "InvalidText", .glo "InvalidCount", .glo "InvalidName", .glo "InvalidTruth", .glo "InvalidEntries", .glo "InvalidData", .glo "InvalidLength", .glo "InvalidPath", .glo "InvalidClaim", .glo "InvalidIndex", .glo "NotAFormula", .glo "NotASeries", .glo "NotARunner", .glo "TextError", .glo "UnknownName", .glo "Taken", .glo "InUse", .glo "Circular", .glo "Clash", .glo "NoSeries", .glo "NoEntry", .glo "NotMade", .glo "DividedByZero", .glo "TooLarge", .glo "TooHeavy", .glo "NotUndoable", .glo "NoWay", .glo "Ended", .glo "NothingToUndo", .glo "Broken", .glo "GivenError", .glo "NameProblem", .glo "AnswerError", .glo "_law_cell", .glo "_law_source", .glo "_law_draw", .glo "_law_given", .glo "_law_of_names", .glo "_law_of_answers"]
def faB : List He.Fa := [.glo "_law_word", .glo "_law_fields", .glo "_law_odd", .glo "_law_names_of_classes", .glo "_law_made", .glo "_law_named", .glo "_law_right", .glo "law", .free "len", .free "int", .free "abs", .free "divmod", .free "range", .free "max", .free "min", .free "repr", .free "isinstance", .free "ValueError", .free "LookupError", .free "ArithmeticError", .free "KeyError", .free "IndexError", .free "ZeroDivisionError", .free "OverflowError", .int "MOST_SIZE" 60, .int "MOST_LEVELS" 20, .int "MOST_LEAD" 8, .int "MOST_LOAD" 65536, .int "MOST_WIDTH" 64, .int "MOST_SHIFT" 8, .int "MOST_WINDOW" 7, .int "MOST_SEASON" 12]
def faL : List He.Fa := faA ++ faB
def inis : List Nat := [0, 1, 2, 3, 4, 5, 6, 7, 8, 9, 10, 11, 12, 13, 14, 15, 16, 17, 18, 19, 20, 21, 22, 24, 25, 26, 27, 30]
def iniB (K : PySem.W.Frag) : Bool := inis.all fun i => decide (PySem.W.findIn K (.ref (He.ga K (nm i))) "__init__" = some (some (.ref (He.ma K (He.ga K (nm i)) "__init__")))) && decide (PySem.W.typeIn K (.ref (He.ma K (He.ga K (nm i)) "__init__")) = some (.type "function"))
theorem ini_ok {K : PySem.W.Frag} (h : iniB K = true) {i : Nat} (hi : i ∈ inis) : PySem.W.findIn K (.ref (He.ga K (nm i))) "__init__" = some (some (.ref (He.ma K (He.ga K (nm i)) "__init__"))) ∧ PySem.W.typeIn K (.ref (He.ma K (He.ga K (nm i)) "__init__")) = some (.type "function") := by
  obtain ⟨h1, h2⟩ := bnd (List.all_eq_true.mp h i hi)
  exact ⟨of_decide_eq_true h1, of_decide_eq_true h2⟩
def exL (K : PySem.W.Frag) : Bool := tabB K (nms.map (He.ga K)) (bnms.map (He.ga K)) && iniB K
def csK (K : PySem.W.Frag) (i : Nat) : Addr := (nms.map (He.ga K)).getD i 0
def bsK (K : PySem.W.Frag) (j : Nat) : Addr := (bnms.map (He.ga K)).getD j 0
def fiK (K : PySem.W.Frag) (i : Nat) : Addr := He.ma K (csK K i) "__init__"
theorem all_in {P : Program} {w : World} {K : PySem.W.Frag} {h : Heap} {mg : Str → Option Value} {fa : Addr} (X : K.In h) (G : h.Ns mainGlobals mg) (hfa : mg "law" = some (.ref fa)) (c : SaysX faL fnL exL K) :
    ∃ fd : FuncData, (∀ (s : Shared) (u : Value), BindsTo s fd ⟨[u], []⟩ [("_law_cells", u)]) ∧ ∀ base : Heap, K.In base → base.Ns mainGlobals mg → FnG P w K mg base CX0 5 fa fd ["_law_cells"] (spLaw K) := by
  have e := hfa.symm.trans (He.glo_ok X G (c.fact 47 (f := .glo "law") rfl))
  cases e
  obtain ⟨fdCell, HCell⟩ := c.def_ 0 (d := d0) rfl
  have FCell : Fun K "_law_cell" "_law_cell" sCell (He.ga K "_law_cell") fdCell := fun_of HCell
  have bCell := FCell.binds (ps := ["_law_cells", "_law_k"]) fun _ _ _ _ _ _ us hl => match us, hl with | [_, _], _ => rfl
  have gCell := He.glo_ok X G (c.fact 34 (f := .glo "_law_cell") rfl)
  obtain ⟨fdSrc, HSrc⟩ := c.def_ 1 (d := d1) rfl
  have FSrc : Fun K "_law_source" "_law_source" sSource (He.ga K "_law_source") fdSrc := fun_of HSrc
  have bSrc := FSrc.binds (ps := ["_law_cell_here"]) fun _ _ _ _ _ _ us hl => match us, hl with | [_], _ => rfl
  have gSrc := He.glo_ok X G (c.fact 35 (f := .glo "_law_source") rfl)
  obtain ⟨fdDraw, HDraw⟩ := c.def_ 2 (d := d2) rfl
  have FDraw : Fun K "_law_draw" "_law_draw" sDraw (He.ga K "_law_draw") fdDraw := fun_of HDraw
  have bDraw := FDraw.binds (ps := ["_law_source_here", "_law_many"]) fun _ _ _ _ _ _ us hl => match us, hl with | [_, _], _ => rfl
  have gDraw := He.glo_ok X G (c.fact 36 (f := .glo "_law_draw") rfl)
  obtain ⟨fdGG, HGG⟩ := c.def_ 3 (d := d3) rfl
  have FGG : Fun K "_law_given" "_law_given" sGiven (He.ga K "_law_given") fdGG := fun_of HGG
  have bGG := FGG.binds (ps := ["_law_e"]) fun _ _ _ _ _ _ us hl => match us, hl with | [_], _ => rfl
  have gGG := He.glo_ok X G (c.fact 37 (f := .glo "_law_given") rfl)
  obtain ⟨fdGN, HGN⟩ := c.def_ 4 (d := d4) rfl
  have FGN : Fun K "_law_of_names" "_law_of_names" sOfNames (He.ga K "_law_of_names") fdGN := fun_of HGN
  have bGN := FGN.binds (ps := ["_law_e"]) fun _ _ _ _ _ _ us hl => match us, hl with | [_], _ => rfl
  have gGN := He.glo_ok X G (c.fact 38 (f := .glo "_law_of_names") rfl)
  obtain ⟨fdGA, HGA⟩ := c.def_ 5 (d := d5) rfl
  have FGA : Fun K "_law_of_answers" "_law_of_answers" sOfAnswers (He.ga K "_law_of_answers") fdGA := fun_of HGA
  have bGA := FGA.binds (ps := ["_law_e"]) fun _ _ _ _ _ _ us hl => match us, hl with | [_], _ => rfl
  have gGA := He.glo_ok X G (c.fact 39 (f := .glo "_law_of_answers") rfl)
  obtain ⟨fdWord, HWord⟩ := c.def_ 6 (d := d6) rfl
  have FWord : Fun K "_law_word" "_law_word" sWord (He.ga K "_law_word") fdWord := fun_of HWord
  have bWord := FWord.binds (ps := ["_law_e"]) fun _ _ _ _ _ _ us hl => match us, hl with | [_], _ => rfl
  have gWord := He.glo_ok X G (c.fact 40 (f := .glo "_law_word") rfl)
  obtain ⟨fdFie, HFie⟩ := c.def_ 7 (d := d7) rfl
  have FFie : Fun K "_law_fields" "_law_fields" sFields (He.ga K "_law_fields") fdFie := fun_of HFie
  have bFie := FFie.binds (ps := ["_law_e", "_law_word_here"]) fun _ _ _ _ _ _ us hl => match us, hl with | [_, _], _ => rfl
  have gFie := He.glo_ok X G (c.fact 41 (f := .glo "_law_fields") rfl)
  obtain ⟨fdOdd, HOdd⟩ := c.def_ 8 (d := d8) rfl
  have FOdd : Fun K "_law_odd" "_law_odd" sOdd (He.ga K "_law_odd") fdOdd := fun_of HOdd
  have bOdd := FOdd.binds (ps := ["_law_source_here"]) fun _ _ _ _ _ _ us hl => match us, hl with | [_], _ => rfl
  have gOdd := He.glo_ok X G (c.fact 42 (f := .glo "_law_odd") rfl)
  obtain ⟨fdNam, HNam⟩ := c.def_ 9 (d := d9) rfl
  have FNam : Fun K "_law_names_of_classes" "_law_names_of_classes" sNames (He.ga K "_law_names_of_classes") fdNam := fun_of HNam
  have bNam := FNam.binds (ps := []) fun _ _ _ _ _ _ us hl => match us, hl with | [], _ => rfl
  have gNam := He.glo_ok X G (c.fact 43 (f := .glo "_law_names_of_classes") rfl)
  obtain ⟨fdMad, HMad⟩ := c.def_ 10 (d := d10) rfl
  have FMad : Fun K "_law_made" "_law_made" sMade (He.ga K "_law_made") fdMad := fun_of HMad
  have bMad := FMad.binds (ps := ["_law_odd_here", "_law_far"]) fun _ _ _ _ _ _ us hl => match us, hl with | [_, _], _ => rfl
  have gMad := He.glo_ok X G (c.fact 44 (f := .glo "_law_made") rfl)
  obtain ⟨fdNmd, HNmd⟩ := c.def_ 11 (d := d11) rfl
  have FNmd : Fun K "_law_named" "_law_named" sNamed (He.ga K "_law_named") fdNmd := fun_of HNmd
  have bNmd := FNmd.binds (ps := ["_law_odd_here", "_law_far"]) fun _ _ _ _ _ _ us hl => match us, hl with | [_, _], _ => rfl
  have gNmd := He.glo_ok X G (c.fact 45 (f := .glo "_law_named") rfl)
  obtain ⟨fdRig, HRig⟩ := c.def_ 12 (d := d12) rfl
  have FRig : Fun K "_law_right" "_law_right" sRight (He.ga K "_law_right") fdRig := fun_of HRig
  have bRig := FRig.binds (ps := ["_law_source_here"]) fun _ _ _ _ _ _ us hl => match us, hl with | [_], _ => rfl
  have gRig := He.glo_ok X G (c.fact 46 (f := .glo "_law_right") rfl)
  obtain ⟨fdLaw, HLaw⟩ := c.def_ 13 (d := d13) rfl
  have FLaw : Fun K "law" "law" sLaw (He.ga K "law") fdLaw := fun_of HLaw
  obtain ⟨tabs, hini⟩ := bnd c.one.2
  obtain ⟨x1, tabs⟩ := bnd tabs
  obtain ⟨x2, tabs⟩ := bnd tabs
  obtain ⟨x3, tabs⟩ := bnd tabs
  obtain ⟨x4, tabs⟩ := bnd tabs
  obtain ⟨x5, tabs⟩ := bnd tabs
  obtain ⟨x6, x7⟩ := bnd tabs
  have TG : ∀ i, i < 31 → mg (nm i) = some (.ref (csK K i)) := fun i hi => match i, hi with
    | 0, _ => He.glo_ok X G (c.fact 0 (f := .glo "InvalidNumber") rfl)
    | 1, _ => He.glo_ok X G (c.fact 1 (f := .glo "InvalidText") rfl)
    | 2, _ => He.glo_ok X G (c.fact 2 (f := .glo "InvalidCount") rfl)
    | 3, _ => He.glo_ok X G (c.fact 3 (f := .glo "InvalidName") rfl)
    | 4, _ => He.glo_ok X G (c.fact 4 (f := .glo "InvalidTruth") rfl)
    | 5, _ => He.glo_ok X G (c.fact 5 (f := .glo "InvalidEntries") rfl)
    | 6, _ => He.glo_ok X G (c.fact 6 (f := .glo "InvalidData") rfl)
    | 7, _ => He.glo_ok X G (c.fact 7 (f := .glo "InvalidLength") rfl)
    | 8, _ => He.glo_ok X G (c.fact 8 (f := .glo "InvalidPath") rfl)
    | 9, _ => He.glo_ok X G (c.fact 9 (f := .glo "InvalidClaim") rfl)
    | 10, _ => He.glo_ok X G (c.fact 10 (f := .glo "InvalidIndex") rfl)
    | 11, _ => He.glo_ok X G (c.fact 11 (f := .glo "NotAFormula") rfl)
    | 12, _ => He.glo_ok X G (c.fact 12 (f := .glo "NotASeries") rfl)
    | 13, _ => He.glo_ok X G (c.fact 13 (f := .glo "NotARunner") rfl)
    | 14, _ => He.glo_ok X G (c.fact 14 (f := .glo "TextError") rfl)
    | 15, _ => He.glo_ok X G (c.fact 15 (f := .glo "UnknownName") rfl)
    | 16, _ => He.glo_ok X G (c.fact 16 (f := .glo "Taken") rfl)
    | 17, _ => He.glo_ok X G (c.fact 17 (f := .glo "InUse") rfl)
    | 18, _ => He.glo_ok X G (c.fact 18 (f := .glo "Circular") rfl)
    | 19, _ => He.glo_ok X G (c.fact 19 (f := .glo "Clash") rfl)
    | 20, _ => He.glo_ok X G (c.fact 20 (f := .glo "NoSeries") rfl)
    | 21, _ => He.glo_ok X G (c.fact 21 (f := .glo "NoEntry") rfl)
    | 22, _ => He.glo_ok X G (c.fact 22 (f := .glo "NotMade") rfl)
    | 23, _ => He.glo_ok X G (c.fact 23 (f := .glo "DividedByZero") rfl)
    | 24, _ => He.glo_ok X G (c.fact 24 (f := .glo "TooLarge") rfl)
    | 25, _ => He.glo_ok X G (c.fact 25 (f := .glo "TooHeavy") rfl)
    | 26, _ => He.glo_ok X G (c.fact 26 (f := .glo "NotUndoable") rfl)
    | 27, _ => He.glo_ok X G (c.fact 27 (f := .glo "NoWay") rfl)
    | 28, _ => He.glo_ok X G (c.fact 28 (f := .glo "Ended") rfl)
    | 29, _ => He.glo_ok X G (c.fact 29 (f := .glo "NothingToUndo") rfl)
    | 30, _ => He.glo_ok X G (c.fact 30 (f := .glo "Broken") rfl)
    | n + 31, h => absurd h (by omega)
  have TGB : ∀ j, j < 3 → mg (bnms.getD j "") = some (.ref (bsK K j)) := fun j hj => match j, hj with
    | 0, _ => He.glo_ok X G (c.fact 31 (f := .glo "GivenError") rfl)
    | 1, _ => He.glo_ok X G (c.fact 32 (f := .glo "NameProblem") rfl)
    | 2, _ => He.glo_ok X G (c.fact 33 (f := .glo "AnswerError") rfl)
    | n + 3, h => absurd h (by omega)
  have T : ErrT K mg (csK K) (bsK K) := { g := TG, gb := TGB, ex := fun i hi => (exB_ok (upTo_ok x1 i hi)).1, xf := fun i hi => (exB_ok (upTo_ok x1 i hi)).2, no := fun i hi f hf => of_decide_eq_true (List.all_eq_true.mp (upTo_ok x2 i hi) f hf), kit := fun i j hi hj => of_decide_eq_true (upTo_ok (upTo_ok x3 i hi) j hj), kitB := fun i j hi hj => of_decide_eq_true (upTo_ok (upTo_ok x4 i hi) j hj), kitT := fun i j hi hj => of_decide_eq_true (upTo_ok (upTo_ok x5 i hi) j hj), kitF := fun i j hi hj => of_decide_eq_true (upTo_ok (upTo_ok x6 i hi) j hj), isi := He.free_ok X G (c.fact 56 (f := .free "isinstance") rfl), val := He.free_ok X G (c.fact 57 (f := .free "ValueError") rfl), loo := He.free_ok X G (c.fact 58 (f := .free "LookupError") rfl), ari := He.free_ok X G (c.fact 59 (f := .free "ArithmeticError") rfl), key := He.free_ok X G (c.fact 60 (f := .free "KeyError") rfl), ind := He.free_ok X G (c.fact 61 (f := .free "IndexError") rfl), zer := He.free_ok X G (c.fact 62 (f := .free "ZeroDivisionError") rfl), ove := He.free_ok X G (c.fact 63 (f := .free "OverflowError") rfl) }
  have TB : Blt mg := ⟨He.free_ok X G (c.fact 48 (f := .free "len") rfl), He.free_ok X G (c.fact 49 (f := .free "int") rfl), He.free_ok X G (c.fact 50 (f := .free "abs") rfl), He.free_ok X G (c.fact 51 (f := .free "divmod") rfl)⟩
  have TB2 : Blt2 mg := { TB with range := He.free_ok X G (c.fact 52 (f := .free "range") rfl), max := He.free_ok X G (c.fact 53 (f := .free "max") rfl), min := He.free_ok X G (c.fact 54 (f := .free "min") rfl) }
  have TB3 : Blt3 mg := ⟨He.free_ok X G (c.fact 55 (f := .free "repr") rfl), He.free_ok X G (c.fact 52 (f := .free "range") rfl), He.free_ok X G (c.fact 48 (f := .free "len") rfl)⟩
  obtain ⟨t0, m0⟩ := He.int_ok X G (c.fact 64 (f := .int "MOST_SIZE" 60) rfl)
  obtain ⟨t1, m1⟩ := He.int_ok X G (c.fact 65 (f := .int "MOST_LEVELS" 20) rfl)
  obtain ⟨t2, m2⟩ := He.int_ok X G (c.fact 66 (f := .int "MOST_LEAD" 8) rfl)
  obtain ⟨t3, m3⟩ := He.int_ok X G (c.fact 67 (f := .int "MOST_LOAD" 65536) rfl)
  obtain ⟨t4, m4⟩ := He.int_ok X G (c.fact 68 (f := .int "MOST_WIDTH" 64) rfl)
  obtain ⟨t5, m5⟩ := He.int_ok X G (c.fact 69 (f := .int "MOST_SHIFT" 8) rfl)
  obtain ⟨t6, m6⟩ := He.int_ok X G (c.fact 70 (f := .int "MOST_WINDOW" 7) rfl)
  obtain ⟨t7, m7⟩ := He.int_ok X G (c.fact 71 (f := .int "MOST_SEASON" 12) rfl)
  have TL : Lim mg (fun j => [t0, t1, t2, t3, t4, t5, t6, t7].getD j t0) := ⟨m0, m1, m2, m3, m4, m5, m6, m7⟩
  have E0 : ExK K (csK K 0) := mkB_ok PySem.F.excBase_ValueError PySem.F.store_ValueError (upTo_ok x7 0 (by decide))
  obtain ⟨fdI0, HI0⟩ := c.def_ 14 (d := d14) rfl
  have FI0 : Fun K "__init__" "InvalidNumber.__init__" sI0 (fiK K 0) fdI0 := fun_of HI0
  have E1 : ExK K (csK K 1) := mkB_ok PySem.F.excBase_ValueError PySem.F.store_ValueError (upTo_ok x7 1 (by decide))
  obtain ⟨fdI1, HI1⟩ := c.def_ 15 (d := d15) rfl
  have FI1 : Fun K "__init__" "InvalidText.__init__" sI1 (fiK K 1) fdI1 := fun_of HI1
  have E2 : ExK K (csK K 2) := mkB_ok PySem.F.excBase_ValueError PySem.F.store_ValueError (upTo_ok x7 2 (by decide))
  obtain ⟨fdI2, HI2⟩ := c.def_ 16 (d := d16) rfl
  have FI2 : Fun K "__init__" "InvalidCount.__init__" sI2 (fiK K 2) fdI2 := fun_of HI2
  have E3 : ExK K (csK K 3) := mkB_ok PySem.F.excBase_ValueError PySem.F.store_ValueError (upTo_ok x7 3 (by decide))
  obtain ⟨fdI3, HI3⟩ := c.def_ 17 (d := d17) rfl
  have FI3 : Fun K "__init__" "InvalidName.__init__" sI3 (fiK K 3) fdI3 := fun_of HI3
  have E4 : ExK K (csK K 4) := mkB_ok PySem.F.excBase_ValueError PySem.F.store_ValueError (upTo_ok x7 4 (by decide))
  obtain ⟨fdI4, HI4⟩ := c.def_ 18 (d := d18) rfl
  have FI4 : Fun K "__init__" "InvalidTruth.__init__" sI4 (fiK K 4) fdI4 := fun_of HI4
  have E5 : ExK K (csK K 5) := mkB_ok PySem.F.excBase_ValueError PySem.F.store_ValueError (upTo_ok x7 5 (by decide))
  obtain ⟨fdI5, HI5⟩ := c.def_ 19 (d := d19) rfl
  have FI5 : Fun K "__init__" "InvalidEntries.__init__" sI5 (fiK K 5) fdI5 := fun_of HI5
  have E6 : ExK K (csK K 6) := mkB_ok PySem.F.excBase_ValueError PySem.F.store_ValueError (upTo_ok x7 6 (by decide))
  obtain ⟨fdI6, HI6⟩ := c.def_ 20 (d := d20) rfl
  have FI6 : Fun K "__init__" "InvalidData.__init__" sI6 (fiK K 6) fdI6 := fun_of HI6
  have E7 : ExK K (csK K 7) := mkB_ok PySem.F.excBase_ValueError PySem.F.store_ValueError (upTo_ok x7 7 (by decide))
  obtain ⟨fdI7, HI7⟩ := c.def_ 21 (d := d21) rfl
  have FI7 : Fun K "__init__" "InvalidLength.__init__" sI7 (fiK K 7) fdI7 := fun_of HI7
  have E8 : ExK K (csK K 8) := mkB_ok PySem.F.excBase_ValueError PySem.F.store_ValueError (upTo_ok x7 8 (by decide))
  obtain ⟨fdI8, HI8⟩ := c.def_ 22 (d := d22) rfl
  have FI8 : Fun K "__init__" "InvalidPath.__init__" sI8 (fiK K 8) fdI8 := fun_of HI8
  have E9 : ExK K (csK K 9) := mkB_ok PySem.F.excBase_ValueError PySem.F.store_ValueError (upTo_ok x7 9 (by decide))
  obtain ⟨fdI9, HI9⟩ := c.def_ 23 (d := d23) rfl
  have FI9 : Fun K "__init__" "InvalidClaim.__init__" sI9 (fiK K 9) fdI9 := fun_of HI9
  have E10 : ExK K (csK K 10) := mkB_ok PySem.F.excBase_ValueError PySem.F.store_ValueError (upTo_ok x7 10 (by decide))
  obtain ⟨fdI10, HI10⟩ := c.def_ 24 (d := d24) rfl
  have FI10 : Fun K "__init__" "InvalidIndex.__init__" sI10 (fiK K 10) fdI10 := fun_of HI10
  have E11 : ExK K (csK K 11) := mkB_ok PySem.F.excBase_ValueError PySem.F.store_ValueError (upTo_ok x7 11 (by decide))
  obtain ⟨fdI11, HI11⟩ := c.def_ 25 (d := d25) rfl
  have FI11 : Fun K "__init__" "NotAFormula.__init__" sI11 (fiK K 11) fdI11 := fun_of HI11
  have E12 : ExK K (csK K 12) := mkB_ok PySem.F.excBase_ValueError PySem.F.store_ValueError (upTo_ok x7 12 (by decide))
  obtain ⟨fdI12, HI12⟩ := c.def_ 26 (d := d26) rfl
  have FI12 : Fun K "__init__" "NotASeries.__init__" sI12 (fiK K 12) fdI12 := fun_of HI12
  have E13 : ExK K (csK K 13) := mkB_ok PySem.F.excBase_ValueError PySem.F.store_ValueError (upTo_ok x7 13 (by decide))
  obtain ⟨fdI13, HI13⟩ := c.def_ 27 (d := d27) rfl
  have FI13 : Fun K "__init__" "NotARunner.__init__" sI13 (fiK K 13) fdI13 := fun_of HI13
  have E14 : ExK K (csK K 14) := mkB_ok PySem.F.excBase_ValueError PySem.F.store_ValueError (upTo_ok x7 14 (by decide))
  obtain ⟨fdI14, HI14⟩ := c.def_ 28 (d := d28) rfl
  have FI14 : Fun K "__init__" "TextError.__init__" sI14 (fiK K 14) fdI14 := fun_of HI14
  have E15 : ExK K (csK K 15) := mkB_ok PySem.F.excBase_LookupError PySem.F.store_LookupError (upTo_ok x7 15 (by decide))
  obtain ⟨fdI15, HI15⟩ := c.def_ 29 (d := d29) rfl
  have FI15 : Fun K "__init__" "UnknownName.__init__" sI15 (fiK K 15) fdI15 := fun_of HI15
  have E16 : ExK K (csK K 16) := mkB_ok PySem.F.excBase_LookupError PySem.F.store_LookupError (upTo_ok x7 16 (by decide))
  obtain ⟨fdI16, HI16⟩ := c.def_ 30 (d := d30) rfl
  have FI16 : Fun K "__init__" "Taken.__init__" sI16 (fiK K 16) fdI16 := fun_of HI16
  have E17 : ExK K (csK K 17) := mkB_ok PySem.F.excBase_LookupError PySem.F.store_LookupError (upTo_ok x7 17 (by decide))
  obtain ⟨fdI17, HI17⟩ := c.def_ 31 (d := d31) rfl
  have FI17 : Fun K "__init__" "InUse.__init__" sI17 (fiK K 17) fdI17 := fun_of HI17
  have E18 : ExK K (csK K 18) := mkB_ok PySem.F.excBase_LookupError PySem.F.store_LookupError (upTo_ok x7 18 (by decide))
  obtain ⟨fdI18, HI18⟩ := c.def_ 32 (d := d32) rfl
  have FI18 : Fun K "__init__" "Circular.__init__" sI18 (fiK K 18) fdI18 := fun_of HI18
  have E19 : ExK K (csK K 19) := mkB_ok PySem.F.excBase_LookupError PySem.F.store_LookupError (upTo_ok x7 19 (by decide))
  obtain ⟨fdI19, HI19⟩ := c.def_ 33 (d := d33) rfl
  have FI19 : Fun K "__init__" "Clash.__init__" sI19 (fiK K 19) fdI19 := fun_of HI19
  have E20 : ExK K (csK K 20) := mkB_ok PySem.F.excBase_LookupError PySem.F.store_LookupError (upTo_ok x7 20 (by decide))
  obtain ⟨fdI20, HI20⟩ := c.def_ 34 (d := d34) rfl
  have FI20 : Fun K "__init__" "NoSeries.__init__" sI20 (fiK K 20) fdI20 := fun_of HI20
  have E21 : ExK K (csK K 21) := mkB_ok PySem.F.excBase_LookupError PySem.F.store_LookupError (upTo_ok x7 21 (by decide))
  obtain ⟨fdI21, HI21⟩ := c.def_ 35 (d := d35) rfl
  have FI21 : Fun K "__init__" "NoEntry.__init__" sI21 (fiK K 21) fdI21 := fun_of HI21
  have E22 : ExK K (csK K 22) := mkB_ok PySem.F.excBase_LookupError PySem.F.store_LookupError (upTo_ok x7 22 (by decide))
  obtain ⟨fdI22, HI22⟩ := c.def_ 36 (d := d36) rfl
  have FI22 : Fun K "__init__" "NotMade.__init__" sI22 (fiK K 22) fdI22 := fun_of HI22
  have E24 : ExK K (csK K 24) := mkB_ok PySem.F.excBase_ArithmeticError PySem.F.store_ArithmeticError (upTo_ok x7 24 (by decide))
  obtain ⟨fdI24, HI24⟩ := c.def_ 37 (d := d37) rfl
  have FI24 : Fun K "__init__" "TooLarge.__init__" sI24 (fiK K 24) fdI24 := fun_of HI24
  have E25 : ExK K (csK K 25) := mkB_ok PySem.F.excBase_ArithmeticError PySem.F.store_ArithmeticError (upTo_ok x7 25 (by decide))
  obtain ⟨fdI25, HI25⟩ := c.def_ 38 (d := d38) rfl
  have FI25 : Fun K "__init__" "TooHeavy.__init__" sI25 (fiK K 25) fdI25 := fun_of HI25
  have E26 : ExK K (csK K 26) := mkB_ok PySem.F.excBase_ArithmeticError PySem.F.store_ArithmeticError (upTo_ok x7 26 (by decide))
  obtain ⟨fdI26, HI26⟩ := c.def_ 39 (d := d39) rfl
  have FI26 : Fun K "__init__" "NotUndoable.__init__" sI26 (fiK K 26) fdI26 := fun_of HI26
  have E27 : ExK K (csK K 27) := mkB_ok PySem.F.excBase_ArithmeticError PySem.F.store_ArithmeticError (upTo_ok x7 27 (by decide))
  obtain ⟨fdI27, HI27⟩ := c.def_ 40 (d := d40) rfl
  have FI27 : Fun K "__init__" "NoWay.__init__" sI27 (fiK K 27) fdI27 := fun_of HI27
  have E30 : ExK K (csK K 30) := mkB_ok PySem.F.excBase_ArithmeticError PySem.F.store_ArithmeticError (upTo_ok x7 30 (by decide))
  obtain ⟨fdI30, HI30⟩ := c.def_ 41 (d := d41) rfl
  have FI30 : Fun K "__init__" "Broken.__init__" sI30 (fiK K 30) fdI30 := fun_of HI30
  let fdI : Nat → FuncData := fun i => [fdI0, fdI1, fdI2, fdI3, fdI4, fdI5, fdI6, fdI7, fdI8, fdI9, fdI10, fdI11, fdI12, fdI13, fdI14, fdI15, fdI16, fdI17, fdI18, fdI19, fdI20, fdI21, fdI22, fdI0, fdI24, fdI25, fdI26, fdI27, fdI0, fdI0, fdI30].getD i fdI0
  refine ⟨fdLaw, fun s v => ?_, fun base _ _ => ?_⟩
  · obtain ⟨oc, od, kV, doc, pm, an, cdv, ct, osl, rfl, _, _⟩ := FLaw.ex
    exact .of_eq rfl
  have M0 : ClsM P w K mg base (csK K 0) (fiK K 0) fdI0 ["self", "given"] _ := ⟨E0, (ini_ok hini (i := 0) (by decide)).1, (ini_ok hini (i := 0) (by decide)).2, ok_I0 FI0 E0 (T.no 0 (by decide) "given" (by decide)), FI0.binds (ps := ["self", "given"]) fun _ _ _ _ _ _ us hl => match us, hl with | [_, _], _ => rfl⟩
  have W0 : KBn K fdI0 ["self", "given"] 1 ["given"] g1 g1 := kbn_kw FI0 1 ["given"] g1 g1 rel_g1 fun _ _ _ _ _ _ us ws h1 h2 => match us, ws, h1, h2 with | [_], [_], _, _ => rfl
  have M1 : ClsM P w K mg base (csK K 1) (fiK K 1) fdI1 ["self", "given"] _ := ⟨E1, (ini_ok hini (i := 1) (by decide)).1, (ini_ok hini (i := 1) (by decide)).2, ok_I1 FI1 E1 (T.no 1 (by decide) "given" (by decide)), FI1.binds (ps := ["self", "given"]) fun _ _ _ _ _ _ us hl => match us, hl with | [_, _], _ => rfl⟩
  have W1 : KBn K fdI1 ["self", "given"] 1 ["given"] g1 g1 := kbn_kw FI1 1 ["given"] g1 g1 rel_g1 fun _ _ _ _ _ _ us ws h1 h2 => match us, ws, h1, h2 with | [_], [_], _, _ => rfl
  have M2 : ClsM P w K mg base (csK K 2) (fiK K 2) fdI2 ["self", "given"] _ := ⟨E2, (ini_ok hini (i := 2) (by decide)).1, (ini_ok hini (i := 2) (by decide)).2, ok_I2 FI2 E2 (T.no 2 (by decide) "given" (by decide)), FI2.binds (ps := ["self", "given"]) fun _ _ _ _ _ _ us hl => match us, hl with | [_, _], _ => rfl⟩
  have W2 : KBn K fdI2 ["self", "given"] 1 ["given"] g1 g1 := kbn_kw FI2 1 ["given"] g1 g1 rel_g1 fun _ _ _ _ _ _ us ws h1 h2 => match us, ws, h1, h2 with | [_], [_], _, _ => rfl
  have M3 : ClsM P w K mg base (csK K 3) (fiK K 3) fdI3 ["self", "given"] _ := ⟨E3, (ini_ok hini (i := 3) (by decide)).1, (ini_ok hini (i := 3) (by decide)).2, ok_I3 FI3 E3 (T.no 3 (by decide) "given" (by decide)), FI3.binds (ps := ["self", "given"]) fun _ _ _ _ _ _ us hl => match us, hl with | [_, _], _ => rfl⟩
  have W3 : KBn K fdI3 ["self", "given"] 1 ["given"] g1 g1 := kbn_kw FI3 1 ["given"] g1 g1 rel_g1 fun _ _ _ _ _ _ us ws h1 h2 => match us, ws, h1, h2 with | [_], [_], _, _ => rfl
  have M4 : ClsM P w K mg base (csK K 4) (fiK K 4) fdI4 ["self", "given"] _ := ⟨E4, (ini_ok hini (i := 4) (by decide)).1, (ini_ok hini (i := 4) (by decide)).2, ok_I4 FI4 E4 (T.no 4 (by decide) "given" (by decide)), FI4.binds (ps := ["self", "given"]) fun _ _ _ _ _ _ us hl => match us, hl with | [_, _], _ => rfl⟩
  have W4 : KBn K fdI4 ["self", "given"] 1 ["given"] g1 g1 := kbn_kw FI4 1 ["given"] g1 g1 rel_g1 fun _ _ _ _ _ _ us ws h1 h2 => match us, ws, h1, h2 with | [_], [_], _, _ => rfl
  have M5 : ClsM P w K mg base (csK K 5) (fiK K 5) fdI5 ["self", "given"] _ := ⟨E5, (ini_ok hini (i := 5) (by decide)).1, (ini_ok hini (i := 5) (by decide)).2, ok_I5 FI5 E5 (T.no 5 (by decide) "given" (by decide)), FI5.binds (ps := ["self", "given"]) fun _ _ _ _ _ _ us hl => match us, hl with | [_, _], _ => rfl⟩
  have W5 : KBn K fdI5 ["self", "given"] 1 ["given"] g1 g1 := kbn_kw FI5 1 ["given"] g1 g1 rel_g1 fun _ _ _ _ _ _ us ws h1 h2 => match us, ws, h1, h2 with | [_], [_], _, _ => rfl
  have M6 : ClsM P w K mg base (csK K 6) (fiK K 6) fdI6 ["self", "given"] _ := ⟨E6, (ini_ok hini (i := 6) (by decide)).1, (ini_ok hini (i := 6) (by decide)).2, ok_I6 FI6 E6 (T.no 6 (by decide) "given" (by decide)), FI6.binds (ps := ["self", "given"]) fun _ _ _ _ _ _ us hl => match us, hl with | [_, _], _ => rfl⟩
  have W6 : KBn K fdI6 ["self", "given"] 1 ["given"] g1 g1 := kbn_kw FI6 1 ["given"] g1 g1 rel_g1 fun _ _ _ _ _ _ us ws h1 h2 => match us, ws, h1, h2 with | [_], [_], _, _ => rfl
  have M7 : ClsM P w K mg base (csK K 7) (fiK K 7) fdI7 ["self", "given"] _ := ⟨E7, (ini_ok hini (i := 7) (by decide)).1, (ini_ok hini (i := 7) (by decide)).2, ok_I7 FI7 E7 (T.no 7 (by decide) "given" (by decide)), FI7.binds (ps := ["self", "given"]) fun _ _ _ _ _ _ us hl => match us, hl with | [_, _], _ => rfl⟩
  have W7 : KBn K fdI7 ["self", "given"] 1 ["given"] g1 g1 := kbn_kw FI7 1 ["given"] g1 g1 rel_g1 fun _ _ _ _ _ _ us ws h1 h2 => match us, ws, h1, h2 with | [_], [_], _, _ => rfl
  have M8 : ClsM P w K mg base (csK K 8) (fiK K 8) fdI8 ["self", "given"] _ := ⟨E8, (ini_ok hini (i := 8) (by decide)).1, (ini_ok hini (i := 8) (by decide)).2, ok_I8 FI8 E8 (T.no 8 (by decide) "given" (by decide)), FI8.binds (ps := ["self", "given"]) fun _ _ _ _ _ _ us hl => match us, hl with | [_, _], _ => rfl⟩
  have W8 : KBn K fdI8 ["self", "given"] 1 ["given"] g1 g1 := kbn_kw FI8 1 ["given"] g1 g1 rel_g1 fun _ _ _ _ _ _ us ws h1 h2 => match us, ws, h1, h2 with | [_], [_], _, _ => rfl
  have M9 : ClsM P w K mg base (csK K 9) (fiK K 9) fdI9 ["self", "given"] _ := ⟨E9, (ini_ok hini (i := 9) (by decide)).1, (ini_ok hini (i := 9) (by decide)).2, ok_I9 FI9 E9 (T.no 9 (by decide) "given" (by decide)), FI9.binds (ps := ["self", "given"]) fun _ _ _ _ _ _ us hl => match us, hl with | [_, _], _ => rfl⟩
  have W9 : KBn K fdI9 ["self", "given"] 1 ["given"] g1 g1 := kbn_kw FI9 1 ["given"] g1 g1 rel_g1 fun _ _ _ _ _ _ us ws h1 h2 => match us, ws, h1, h2 with | [_], [_], _, _ => rfl
  have M10 : ClsM P w K mg base (csK K 10) (fiK K 10) fdI10 ["self", "given"] _ := ⟨E10, (ini_ok hini (i := 10) (by decide)).1, (ini_ok hini (i := 10) (by decide)).2, ok_I10 FI10 E10 (T.no 10 (by decide) "given" (by decide)), FI10.binds (ps := ["self", "given"]) fun _ _ _ _ _ _ us hl => match us, hl with | [_, _], _ => rfl⟩
  have W10 : KBn K fdI10 ["self", "given"] 1 ["given"] g1 g1 := kbn_kw FI10 1 ["given"] g1 g1 rel_g1 fun _ _ _ _ _ _ us ws h1 h2 => match us, ws, h1, h2 with | [_], [_], _, _ => rfl
  have M11 : ClsM P w K mg base (csK K 11) (fiK K 11) fdI11 ["self", "given"] _ := ⟨E11, (ini_ok hini (i := 11) (by decide)).1, (ini_ok hini (i := 11) (by decide)).2, ok_I11 FI11 E11 (T.no 11 (by decide) "given" (by decide)), FI11.binds (ps := ["self", "given"]) fun _ _ _ _ _ _ us hl => match us, hl with | [_, _], _ => rfl⟩
  have W11 : KBn K fdI11 ["self", "given"] 1 ["given"] g1 g1 := kbn_kw FI11 1 ["given"] g1 g1 rel_g1 fun _ _ _ _ _ _ us ws h1 h2 => match us, ws, h1, h2 with | [_], [_], _, _ => rfl
  have M12 : ClsM P w K mg base (csK K 12) (fiK K 12) fdI12 ["self", "given"] _ := ⟨E12, (ini_ok hini (i := 12) (by decide)).1, (ini_ok hini (i := 12) (by decide)).2, ok_I12 FI12 E12 (T.no 12 (by decide) "given" (by decide)), FI12.binds (ps := ["self", "given"]) fun _ _ _ _ _ _ us hl => match us, hl with | [_, _], _ => rfl⟩
  have W12 : KBn K fdI12 ["self", "given"] 1 ["given"] g1 g1 := kbn_kw FI12 1 ["given"] g1 g1 rel_g1 fun _ _ _ _ _ _ us ws h1 h2 => match us, ws, h1, h2 with | [_], [_], _, _ => rfl
  have M13 : ClsM P w K mg base (csK K 13) (fiK K 13) fdI13 ["self", "given"] _ := ⟨E13, (ini_ok hini (i := 13) (by decide)).1, (ini_ok hini (i := 13) (by decide)).2, ok_I13 FI13 E13 (T.no 13 (by decide) "given" (by decide)), FI13.binds (ps := ["self", "given"]) fun _ _ _ _ _ _ us hl => match us, hl with | [_, _], _ => rfl⟩
  have W13 : KBn K fdI13 ["self", "given"] 1 ["given"] g1 g1 := kbn_kw FI13 1 ["given"] g1 g1 rel_g1 fun _ _ _ _ _ _ us ws h1 h2 => match us, ws, h1, h2 with | [_], [_], _, _ => rfl
  have M14 : ClsM P w K mg base (csK K 14) (fiK K 14) fdI14 ["self", "place"] _ := ⟨E14, (ini_ok hini (i := 14) (by decide)).1, (ini_ok hini (i := 14) (by decide)).2, ok_I14 FI14 E14 (T.no 14 (by decide) "place" (by decide)), FI14.binds (ps := ["self", "place"]) fun _ _ _ _ _ _ us hl => match us, hl with | [_, _], _ => rfl⟩
  have W14 : KBn K fdI14 ["self", "place"] 1 ["place"] g1 g1 := kbn_kw FI14 1 ["place"] g1 g1 rel_g1 fun _ _ _ _ _ _ us ws h1 h2 => match us, ws, h1, h2 with | [_], [_], _, _ => rfl
  have M15 : ClsM P w K mg base (csK K 15) (fiK K 15) fdI15 ["self", "given"] _ := ⟨E15, (ini_ok hini (i := 15) (by decide)).1, (ini_ok hini (i := 15) (by decide)).2, ok_I15 FI15 E15 (T.no 15 (by decide) "given" (by decide)), FI15.binds (ps := ["self", "given"]) fun _ _ _ _ _ _ us hl => match us, hl with | [_, _], _ => rfl⟩
  have W15 : KBn K fdI15 ["self", "given"] 1 ["given"] g1 g1 := kbn_kw FI15 1 ["given"] g1 g1 rel_g1 fun _ _ _ _ _ _ us ws h1 h2 => match us, ws, h1, h2 with | [_], [_], _, _ => rfl
  have M16 : ClsM P w K mg base (csK K 16) (fiK K 16) fdI16 ["self", "given"] _ := ⟨E16, (ini_ok hini (i := 16) (by decide)).1, (ini_ok hini (i := 16) (by decide)).2, ok_I16 FI16 E16 (T.no 16 (by decide) "given" (by decide)), FI16.binds (ps := ["self", "given"]) fun _ _ _ _ _ _ us hl => match us, hl with | [_, _], _ => rfl⟩
  have W16 : KBn K fdI16 ["self", "given"] 1 ["given"] g1 g1 := kbn_kw FI16 1 ["given"] g1 g1 rel_g1 fun _ _ _ _ _ _ us ws h1 h2 => match us, ws, h1, h2 with | [_], [_], _, _ => rfl
  have M17 : ClsM P w K mg base (csK K 17) (fiK K 17) fdI17 ["self", "user"] _ := ⟨E17, (ini_ok hini (i := 17) (by decide)).1, (ini_ok hini (i := 17) (by decide)).2, ok_I17 FI17 E17 (T.no 17 (by decide) "user" (by decide)), FI17.binds (ps := ["self", "user"]) fun _ _ _ _ _ _ us hl => match us, hl with | [_, _], _ => rfl⟩
  have W17 : KBn K fdI17 ["self", "user"] 1 ["user"] g1 g1 := kbn_kw FI17 1 ["user"] g1 g1 rel_g1 fun _ _ _ _ _ _ us ws h1 h2 => match us, ws, h1, h2 with | [_], [_], _, _ => rfl
  have M18 : ClsM P w K mg base (csK K 18) (fiK K 18) fdI18 ["self", "given"] _ := ⟨E18, (ini_ok hini (i := 18) (by decide)).1, (ini_ok hini (i := 18) (by decide)).2, ok_I18 FI18 E18 (T.no 18 (by decide) "given" (by decide)), FI18.binds (ps := ["self", "given"]) fun _ _ _ _ _ _ us hl => match us, hl with | [_, _], _ => rfl⟩
  have W18 : KBn K fdI18 ["self", "given"] 1 ["given"] g1 g1 := kbn_kw FI18 1 ["given"] g1 g1 rel_g1 fun _ _ _ _ _ _ us ws h1 h2 => match us, ws, h1, h2 with | [_], [_], _, _ => rfl
  have M19 : ClsM P w K mg base (csK K 19) (fiK K 19) fdI19 ["self", "given"] _ := ⟨E19, (ini_ok hini (i := 19) (by decide)).1, (ini_ok hini (i := 19) (by decide)).2, ok_I19 FI19 E19 (T.no 19 (by decide) "given" (by decide)), FI19.binds (ps := ["self", "given"]) fun _ _ _ _ _ _ us hl => match us, hl with | [_, _], _ => rfl⟩
  have W19 : KBn K fdI19 ["self", "given"] 1 ["given"] g1 g1 := kbn_kw FI19 1 ["given"] g1 g1 rel_g1 fun _ _ _ _ _ _ us ws h1 h2 => match us, ws, h1, h2 with | [_], [_], _, _ => rfl
  have M20 : ClsM P w K mg base (csK K 20) (fiK K 20) fdI20 ["self", "given"] _ := ⟨E20, (ini_ok hini (i := 20) (by decide)).1, (ini_ok hini (i := 20) (by decide)).2, ok_I20 FI20 E20 (T.no 20 (by decide) "given" (by decide)), FI20.binds (ps := ["self", "given"]) fun _ _ _ _ _ _ us hl => match us, hl with | [_, _], _ => rfl⟩
  have W20 : KBn K fdI20 ["self", "given"] 1 ["given"] g1 g1 := kbn_kw FI20 1 ["given"] g1 g1 rel_g1 fun _ _ _ _ _ _ us ws h1 h2 => match us, ws, h1, h2 with | [_], [_], _, _ => rfl
  have M21 : ClsM P w K mg base (csK K 21) (fiK K 21) fdI21 ["self", "given"] _ := ⟨E21, (ini_ok hini (i := 21) (by decide)).1, (ini_ok hini (i := 21) (by decide)).2, ok_I21 FI21 E21 (T.no 21 (by decide) "given" (by decide)), FI21.binds (ps := ["self", "given"]) fun _ _ _ _ _ _ us hl => match us, hl with | [_, _], _ => rfl⟩
  have W21 : KBn K fdI21 ["self", "given"] 1 ["given"] g1 g1 := kbn_kw FI21 1 ["given"] g1 g1 rel_g1 fun _ _ _ _ _ _ us ws h1 h2 => match us, ws, h1, h2 with | [_], [_], _, _ => rfl
  have M22 : ClsM P w K mg base (csK K 22) (fiK K 22) fdI22 ["self", "given"] _ := ⟨E22, (ini_ok hini (i := 22) (by decide)).1, (ini_ok hini (i := 22) (by decide)).2, ok_I22 FI22 E22 (T.no 22 (by decide) "given" (by decide)), FI22.binds (ps := ["self", "given"]) fun _ _ _ _ _ _ us hl => match us, hl with | [_, _], _ => rfl⟩
  have W22 : KBn K fdI22 ["self", "given"] 1 ["given"] g1 g1 := kbn_kw FI22 1 ["given"] g1 g1 rel_g1 fun _ _ _ _ _ _ us ws h1 h2 => match us, ws, h1, h2 with | [_], [_], _, _ => rfl
  have M24 : ClsM P w K mg base (csK K 24) (fiK K 24) fdI24 ["self", "limit"] _ := ⟨E24, (ini_ok hini (i := 24) (by decide)).1, (ini_ok hini (i := 24) (by decide)).2, ok_I24 FI24 E24 (T.no 24 (by decide) "limit" (by decide)), FI24.binds (ps := ["self", "limit"]) fun _ _ _ _ _ _ us hl => match us, hl with | [_, _], _ => rfl⟩
  have W24 : KBn K fdI24 ["self", "limit"] 1 ["limit"] g1 g1 := kbn_kw FI24 1 ["limit"] g1 g1 rel_g1 fun _ _ _ _ _ _ us ws h1 h2 => match us, ws, h1, h2 with | [_], [_], _, _ => rfl
  have M25 : ClsM P w K mg base (csK K 25) (fiK K 25) fdI25 ["self", "limit"] _ := ⟨E25, (ini_ok hini (i := 25) (by decide)).1, (ini_ok hini (i := 25) (by decide)).2, ok_I25 FI25 E25 (T.no 25 (by decide) "limit" (by decide)), FI25.binds (ps := ["self", "limit"]) fun _ _ _ _ _ _ us hl => match us, hl with | [_, _], _ => rfl⟩
  have W25 : KBn K fdI25 ["self", "limit"] 1 ["limit"] g1 g1 := kbn_kw FI25 1 ["limit"] g1 g1 rel_g1 fun _ _ _ _ _ _ us ws h1 h2 => match us, ws, h1, h2 with | [_], [_], _, _ => rfl
  have M26 : ClsM P w K mg base (csK K 26) (fiK K 26) fdI26 ["self", "reason", "place"] _ := ⟨E26, (ini_ok hini (i := 26) (by decide)).1, (ini_ok hini (i := 26) (by decide)).2, ok_I26 FI26 E26 (T.no 26 (by decide) "reason" (by decide)) (T.no 26 (by decide) "place" (by decide)), FI26.binds (ps := ["self", "reason", "place"]) fun _ _ _ _ _ _ us hl => match us, hl with | [_, _, _], _ => rfl⟩
  have W26 : KBn K fdI26 ["self", "reason", "place"] 1 ["place", "reason"] g2 g2 := kbn_kw FI26 1 ["place", "reason"] g2 g2 rel_g2 fun _ _ _ _ _ _ us ws h1 h2 => match us, ws, h1, h2 with | [_], [_, _], _, _ => rfl
  have M27 : ClsM P w K mg base (csK K 27) (fiK K 27) fdI27 ["self", "place"] _ := ⟨E27, (ini_ok hini (i := 27) (by decide)).1, (ini_ok hini (i := 27) (by decide)).2, ok_I27 FI27 E27 (T.no 27 (by decide) "place" (by decide)), FI27.binds (ps := ["self", "place"]) fun _ _ _ _ _ _ us hl => match us, hl with | [_, _], _ => rfl⟩
  have W27 : KBn K fdI27 ["self", "place"] 1 ["place"] g1 g1 := kbn_kw FI27 1 ["place"] g1 g1 rel_g1 fun _ _ _ _ _ _ us ws h1 h2 => match us, ws, h1, h2 with | [_], [_], _, _ => rfl
  have M30 : ClsM P w K mg base (csK K 30) (fiK K 30) fdI30 ["self", "index", "shown"] _ := ⟨E30, (ini_ok hini (i := 30) (by decide)).1, (ini_ok hini (i := 30) (by decide)).2, ok_I30 FI30 E30 (T.no 30 (by decide) "index" (by decide)) (T.no 30 (by decide) "shown" (by decide)), FI30.binds (ps := ["self", "index", "shown"]) fun _ _ _ _ _ _ us hl => match us, hl with | [_, _, _], _ => rfl⟩
  have W30 : KBn K fdI30 ["self", "index", "shown"] 1 ["shown", "index"] g2 g2 := kbn_kw FI30 1 ["shown", "index"] g2 g2 rel_g2 fun _ _ _ _ _ _ us ws h1 h2 => match us, ws, h1, h2 with | [_], [_, _], _, _ => rfl
  have MK : Makers P w K mg base (csK K) (fiK K) fdI := { M0 := M0, W0 := W0, M1 := M1, W1 := W1, M2 := M2, W2 := W2, M3 := M3, W3 := W3, M4 := M4, W4 := W4, M5 := M5, W5 := W5, M6 := M6, W6 := W6, M7 := M7, W7 := W7, M8 := M8, W8 := W8, M9 := M9, W9 := W9, M10 := M10, W10 := W10, M11 := M11, W11 := W11, M12 := M12, W12 := W12, M13 := M13, W13 := W13, M14 := M14, W14 := W14, M15 := M15, W15 := W15, M16 := M16, W16 := W16, M17 := M17, W17 := W17, M18 := M18, W18 := W18, M19 := M19, W19 := W19, M20 := M20, W20 := W20, M21 := M21, W21 := W21, M22 := M22, W22 := W22, M24 := M24, W24 := W24, M25 := M25, W25 := W25, M26 := M26, W26 := W26, M27 := M27, W27 := W27, M30 := M30, W30 := W30, N23 := (bnd (upTo_ok x7 23 (by decide))).1, k23 := (bnd (upTo_ok x7 23 (by decide))).2, N28 := (bnd (upTo_ok x7 28 (by decide))).1, k28 := (bnd (upTo_ok x7 28 (by decide))).2, N29 := (bnd (upTo_ok x7 29 (by decide))).1, k29 := (bnd (upTo_ok x7 29 (by decide))).2 }
  have GO : FnOk P w K mg base CX0 3 _ _ ["_law_source_here"] spOdd := (ok_odd FOdd FDraw bDraw gDraw TB).mono (by decide)
  have GN : FnOk P w K mg base CX0 3 _ _ [] spNames := (ok_names FNam).mono (by decide)
  have GD : FnOk P w K mg base CX0 3 _ _ ["_law_e"] (spWord (csK K)) := (ok_word FWord T FGG bGG gGG FGN bGN gGN FGA bGA gGA).mono (by decide)
  have GS : FnOk P w K mg base CX0 3 _ _ ["_law_e", "_law_word_here"] (spFields (csK K)) := (ok_fields FFie T).mono (by decide)
  exact ok_law FLaw TB2 TB3 TL FSrc bSrc gSrc FCell bCell gCell FRig (ok_right FRig T TB3 FOdd GO bOdd gOdd FNam GN bNam gNam FMad (ok_made FMad T MK) bMad gMad FNmd (ok_named FNmd T MK) bNmd gNmd FWord GD bWord gWord FFie GS bFie gFie) bRig gRig
abbrev R1 : PySem.W.OpenRow := PySem.W.OpenLaw.row PySem.Challenge.rw_seriesforms_k01_constants_and_errors
abbrev hk : PySem.W.Hook := hookX 5 faL fnL exL
def ob (s : PySem.W.SharedT) : He.AlD := obsXG 5 faL fnL exL (HandSHeadRun.getT s)
theorem ob_eq (s : PySem.W.SharedT) : ob s = hk.obs s.abs := obsXG_eq (HandSHeadRun.getT_eq s)
def ls1 : List PySem.Str := ["GivenError", "InvalidNumber", "InvalidText", "InvalidCount", "InvalidName", "InvalidTruth", "InvalidEntries", "InvalidData", "InvalidLength", "InvalidPath", "InvalidClaim", "InvalidIndex", "NotAFormula", "NotASeries", "NotARunner", "TextError", "NameProblem", "UnknownName", "Taken", "InUse"]
def ls2 : List PySem.Str := ["Circular", "Clash", "NoSeries", "NoEntry", "NotMade", "AnswerError", "DividedByZero", "TooLarge", "TooHeavy", "NotUndoable", "NoWay", "Ended", "NothingToUndo", "Broken", "MOST_SIZE", "MOST_LEVELS", "MOST_LEAD", "MOST_LOAD", "MOST_WIDTH", "MOST_SHIFT"]
def ls3 : List PySem.Str := ["MOST_WINDOW", "MOST_SEASON", "_law_cell", "_law_source", "_law_draw", "_law_given", "_law_of_names", "_law_of_answers", "_law_word", "_law_fields", "_law_odd", "_law_names_of_classes", "_law_made", "_law_named", "_law_right"]
def loose : List PySem.Str := ls1 ++ (ls2 ++ ls3)
theorem run (w : World) : HandSHeadRun.RunEq R1 (PySem.W.view R1.prog [57]) hk ob 9000 loose w := by
  intro os
  kernel_rfl
end T01

open PySem PySem.W PySem.Calls PyProof.Rows in
set_option maxHeartbeats 0 in
theorem PySem.Challenge.cw_seriesforms_k01_constants_and_errors_holds : PySem.Challenge.rw_seriesforms_k01_constants_and_errors.Holds := by
  w_on; o_law
  refine HandSHeadRun.head_any (r := OpenLaw.row PySem.Challenge.rw_seriesforms_k01_constants_and_errors) (q := view (OpenLaw.row PySem.Challenge.rw_seriesforms_k01_constants_and_errors).prog [57]) (H := T01.hk) (ob := T01.ob) (M := 9000) (loose := T01.loose) (d := HandSHeadRun.topDef (OpenLaw.row PySem.Challenge.rw_seriesforms_k01_constants_and_errors).prog 57) (kwd := []) T01.ob_eq
    (by kernel_rfl) (fun s => by kernel_rfl) T01.run (by kernel_rfl) (by kernel_rfl) (by kernel_rfl) (by rfl) (by first | assumption | decide +kernel) (by decide +kernel) ⟨rfl, rfl, rfl, rfl, rfl, by decide +kernel⟩ ?hw ?hc
  case hw => w_witness2
  case hc =>
    refine SH.walkGE (l := PySem.Challenge.rw_seriesforms_k01_constants_and_errors) (n := 63) (k := 5) (x := "_law_cells") rfl (by decide) (by kernel_rfl) ⟨rfl, by decide, by decide⟩ ?F
    intro w mg fa h Y G hmg0
    obtain ⟨K, KX, c⟩ := Y
    have hmg : mg ("law" : PySem.Str) = some (.ref fa) := by
      have e : (HandSHeadRun.topDef (OpenLaw.row PySem.Challenge.rw_seriesforms_k01_constants_and_errors).prog 57).name = ("law" : PySem.Str) := by kernel_rfl
      rw [← e]
      exact hmg0
    obtain ⟨fd, hb, hF⟩ := T01.all_in (P := (PySem.Challenge.rw_seriesforms_k01_constants_and_errors).prog) (w := w) KX G hmg c
    exact ⟨K, fd, T01.spLaw K, KX, hb, fun H a ns hl hS => ⟨a, ns, rfl, hS, hl, fun _ => rfl⟩, hF⟩
