import PyProof.Rows.All
import Wide.All
import OpenK.AllK
import Wide.FinOn
import HandS.ForMost
import HandS.OwnEq
import HandS.SlotsOwn
import HandS.Property
import HandS.MakeKw
import HandS.MakeKwOnly
import HandS.IsInst
import HandS.Gcd
import HandS.Wide
import HandS.WideBits
import HandS.FStr
import KE.KFmtOwn
import PyProof.FactsAll.dict
import PySem.Challenge.RW_seriesforms_k02_ratios_in_lowest_terms
import PyProof.ReprLen
import KE.RegKIsAll
set_option Elab.async false
set_option maxRecDepth 100000
set_option maxHeartbeats 4000000
set_option linter.all false
/-! A def's promise where it is known that no guard runs (a container may be shown). -/
namespace SF
open PySem PySem.Spec PyProof.Rows L2

structure FnG (P : Program) (w : World) (K : PySem.W.Frag) (mg : Str → Option Value) (base : Heap) (CX : CXT) (k : Nat) (f : Addr) (fd : FuncData) (ps : List Str) (sp : Sp) : Prop where
  len : ∀ vs H Q E, sp vs H Q E → vs.length = ps.length
  run : ∀ (A : Around) (outer : List Env) (s : Shared) (H : Hp) (args : Args) (us : List Value) (vs : List V) (Q : VK) (E : XK), A.guards = some [] → Room k A → Env0 P w K mg base A outer s H → BindsTo s fd args (ps.zip us) → Vals vs us → sp vs H Q E →
    codeAny (model P w) A (.call (.ref f) args) (CR CX outer P w H s Q E) s

section
variable {X : Cx} {CX : CXT} {k : Nat} {f : Addr} {fd : FuncData} {ps : List Str} {sp : Sp} {dvs : List V} {ds : List Value} {E : XK} {x : Str} {p pos : Pos} {e : Expr} {es : List Expr} {t : TA}
theorem run_fnG {pins : List (Addr × Obj)} {σ : L2.St} {H : Hp} {s : Shared} {Q : VK} {us : List Value} {vs : List V} (F : FnG X.prog X.w X.K X.mg X.base CX k f fd ps sp) (hgd : X.A.guards = some []) (hr : Room k X.A) (hb : Binds X.K fd ps ds) (hd : Vals dvs ds) (hx : Passes CX X E)
    (I : Inv X pins σ H s) (r : Vals vs us) (h : sp (vs ++ dvs) H Q E) : wpAny (model X.prog X.w) X.A (call (.ref f) us) (EP X pins σ Q) X.xe s := by
  have r2 : Vals (vs ++ dvs) (us ++ ds) := r.append hd
  have hl : (us ++ ds).length = ps.length := by rw [← r2.length]; exact F.len _ _ _ _ h
  refine wpAny_call (codeAny_mono (F.run X.A X.stack s H ⟨us, []⟩ (us ++ ds) (vs ++ dvs) Q E hgd hr I.env0 (hb s us I.kIn hl) r2 h) fun r s' hq => ?_)
  cases r with
  | error e => exact hx pins σ H s e s' I hq
  | ok fl =>
    cases fl with
    | ret u => exact I.after hq
    | next => exact False.elim hq
    | brk => exact False.elim hq
    | cont => exact False.elim hq
theorem pe_callG (F : FnG X.prog X.w X.K X.mg X.base CX k f fd ps sp) (hgd : X.A.guards = some []) (hr : Room k X.A) (hg : Gl X x) (hm : X.mg x = some (.ref f)) (hk : PySem.W.keepIn X.K (.ref f) = true) (hb : Binds X.K fd ps ds) (hd : Vals dvs ds) (hx : Passes CX X E)
    (ha : PA X (e :: es) t) (hdb : (x == ("__debug__" : Str)) = false := by decide) (he : starEach (e :: es) X.env = (false, eval e X.env) :: starEach es X.env := by rfl) (hpl : (backTo pos (starEach es X.env)).any (·.1) = false := by rfl) :
    PE X (.Call (.Name x p) (e :: es) [] pos) (tCall sp dvs E t) := by
  refine ⟨fun pins s σ H Q I h => ?_⟩
  refine wpAny_Call_Name_kw (ld_glob I hg hm ?_ hdb)
  refine PySem.W.callWith_K (h₀ := X.base) I.ok.mod.kin hk (thn (ha.run pos pins s σ H _ I h) fun us s1 ⟨vs, H1, I1, r, q⟩ => ⟨I1.kIn, ?_⟩) he hpl
  exact run_fnG F hgd hr hb hd hx I1 r q
end

theorem fn_ofG {CX : CXT} {P : Program} {w : World} {K : PySem.W.Frag} {mg : Str → Option Value} {base : Heap} {k : Nat} {f : Addr} {name qual : Str} {params : Arguments} {body : List Stmt} {scope : Scope} {dV kV doc pm cdv ct oc : Value} {an od : Option Addr}
    {osl : Array (Option Value)} {N ps : List Str} {sp : Sp} (lk : K.lookup f = some ⟨oc, od, .func (PySem.W.fnOf name qual params body scope dV kV doc pm an cdv ct), osl⟩) (hcd : PySem.W.codeIn K cdv qual = true) (S : FnScope N ps scope)
    (len : ∀ vs H Q E, sp vs H Q E → vs.length = ps.length)
    (hbody : ∀ (A : Around) (outer : List Env) (s : Shared) (H : Hp) (vs : List V) (Q : VK) (E : XK), A.guards = some [] → Room k (A.deeper (envOfC qual scope s.heap.objs.size f cdv)) → sp vs H Q E →
      ∃ t, PSs (cxOf CX P w K mg base N qual scope f cdv A outer s H E) body t ∧ t { nx := fun _ H' => Q .non H', rt := Q } (start N vs) H) :
    FnG P w K mg base CX (k + 1) f (PySem.W.fnOf name qual params body scope dV kV doc pm an cdv ct) ps sp := by
  refine ⟨len, fun A outer s H args us vs Q E hgd hr e0 hb r hsp => ?_⟩
  have hl := len _ _ _ _ hsp
  have KX : K.In s.heap := e0.mod.kin.keeps fun b o e => (e0.bs b o e).1
  have lim : s.heap.NoLimit := e0.mod.nolimit.keeps fun b o e => (e0.bs b o e).1
  have hkind : ∀ y ∈ ps.zip us, scope.names.lookup y.1 = some .local ∨ (scope.names.lookup y.1 = some .cell ∧ ((cellsFrom (s.heap.objs.size + 1) scope.names []).lookup y.1).isSome = true) := fun ⟨n, v⟩ hy => by
    rcases S.par n (List.of_mem_zip hy).1 with q | q
    · exact .inl q
    · exact .inr ⟨q, PySem.W.cellsFrom_some _ _ _ (.inl q)⟩
  refine codeAny_call_function hr.depth (KX _ _ lk) rfl S.co S.gen rfl (PySem.W.codeRec_of KX hcd) (hb _ _ _ _ ?_)
  refine wpAny_newFunctionEnv_cells S.kind hkind fun env he s1 x => ?_
  subst he
  refine ⟨lim.keeps x.toInCall.keep, codeAny_func ?_⟩
  obtain ⟨t, ht, hq⟩ := hbody A outer s H vs Q E hgd (hr.deeper _) hsp
  have I : Inv (cxOf CX P w K mg base N qual scope f cdv A outer s H E) [] (start N vs) H s1 := inv_start S hr.hd e0 hl r x
  refine wpAny_mono (ht.run [] s1 (start N vs) H _ I hq) (fun fl s' hs => ?_) fun e s' hs => hs
  have fin : ∀ {σ' : L2.St} {H' : Hp} {v : V} {u : Value}, Inv (cxOf CX P w K mg base N qual scope f cdv A outer s H E) [] σ' H' s' → RelV v u → Q v H' → CE outer P w H s Q u s' :=
    fun {σ' H' v u} J rv q => ⟨v, H', J.os, J.bare, J.base, J.hok, rv, q⟩
  cases fl with
  | ret u =>
    obtain ⟨v, σ', H', J, rv, q⟩ := hs
    exact fin J rv q
  | next =>
    obtain ⟨σ', H', J, q⟩ := hs
    exact fin (v := V.non) (u := Value.none) J rfl q
  | brk =>
    obtain ⟨_, _, _, q⟩ := hs
    exact False.elim q
  | cont =>
    obtain ⟨_, _, _, q⟩ := hs
    exact False.elim q

section
variable {P : Program} {w : World} {K : PySem.W.Frag} {mg : Str → Option Value} {base : Heap}
theorem okG {x qual : Str} {st : Stmt} {f : Addr} {fd : FuncData} {N ps : List Str} {k : Nat} {sp : Sp} (F : Fun K x qual st f fd) (S : FnScope N ps (defScope st)) (len : ∀ vs H Q E, sp vs H Q E → vs.length = ps.length)
    (hbody : ∀ (cdv : Value) (A : Around) (outer : List Env) (s : Shared) (H : Hp) (vs : List V) (Q : VK) (E : XK), A.guards = some [] → Room k (A.deeper (envOfC qual (defScope st) s.heap.objs.size f cdv)) → sp vs H Q E →
      ∃ t, PSs (cxOf CX0 P w K mg base N qual (defScope st) f cdv A outer s H E).nox (defBody st) t ∧ t { nx := fun _ H' => Q .non H', rt := Q } (start N vs) H) : FnG P w K mg base CX0 (k + 1) f fd ps sp := by
  obtain ⟨oc, od, kV, doc, pm, an, cdv, ct, osl, rfl, lk, hcd⟩ := F.ex
  refine fn_ofG lk hcd S len fun A outer s H vs Q E hgd hr hsp => ?_
  obtain ⟨t, h, q⟩ := hbody cdv A outer s H vs Q E hgd hr hsp
  exact ⟨t, h.nox, q⟩
end
example (A : Around) (e : Env) (h : A.guards = some []) : (A.deeper e).guards = some [] := h
example (A : Around) (h : A.guards = some []) : (A.in1).guards = some [] := h
example : callerA.guards = some [] := rfl
end SF

namespace SF
open PySem PySem.Spec PyProof.Rows L2
open AutoSeq1 (wpAny_loadPart')

/-! ### // by any divisor but 0 -/
def CDivZ (_ j : Int) : Prop := j ≠ 0 ∧ j.natAbs.log2 < 9000
section
variable {X : Cx}
theorem op_fdivZ : OpR X (binaryOp .FloorDiv) (rI CDivZ fun i j => .int (i.fdiv j)) := opI fun i j _ _ _ _ _ hc q =>
  floordiv_int hc.1 q (.inl (PyProof.noPylong_of_log2 hc.2))
end

section
variable {X : Cx} {CX : CXT} {n : Nat} {C g : Addr} {fd : FuncData} {ps : List Str} {sp : Sp} {E : XK}

/-- an instance's place in the state -/
theorem inst_of {pins : List (Addr × Obj)} {σ : L2.St} {H : Hp} {s : Shared} {a C dx : Addr} {fs : List (Str × V)} (I : Inv X pins σ H s) (e : H a = some (.ins C dx fs)) : ∃ od, PySem.W.InstAt s.heap a (PySem.W.instObj C dx) C (some od) := by
  obtain ⟨mA, O, _⟩ := ins_get I.hok e
  obtain ⟨od, J, _⟩ := O.look
  exact ⟨od, J⟩

/-- x op y, x an instance of the class at C whose own def for op stands at g, y of any kind -/
def rOwnL (K : PySem.W.Frag) (C : Addr) (sp : Sp) (E : XK) : R2 := fun x y H Q => ∃ a dx fs tb, x = .ref a ∧ H a = some (.ins C dx fs) ∧ TyX K H y tb ∧ PySem.W.notFirst K C tb = true ∧ sp [x, y] H Q E
theorem op_ownL {op : CmpOp} (hop : ∀ a b, compareOp op a b = richCompare op a b) (hs : PySem.W.findIn X.K (.ref C) (cmpInfo op).2.1 = some (some (.ref g))) (hf : PySem.W.isFn X.K (.ref g) = true)
    (F : FnOk X.prog X.w X.K X.mg X.base CX n g fd ps sp) (hb : Binds X.K fd ps []) (hr : Room n X.A) (hx : Passes CX X E) : OpR X (compareOp op) (rOwnL X.K C sp E) := by
  intro pins s σ H x y v u Q I rx ry h
  obtain ⟨a, dx, fs, tb, rfl, ha, ty, hn, q⟩ := h
  cases (show v = Value.ref a from rx)
  obtain ⟨od, J⟩ := inst_of I ha
  obtain ⟨P, kt, hP, _⟩ := kit_of I ry ty
  obtain ⟨m, hF⟩ := I.fr
  rw [hop]
  refine PySem.W.cmp_K (op := op) (tb := tb) hr.units0 hF I.ok.mod.kin J (kt.ty _ _ I.kIn hP) hn hs hf ?_
  refine wpAny_mono (run_fn (us := [.ref a, u]) (vs := [.ref a, y]) (dvs := []) (ds := []) F hr hb .nil hx I (.cons rfl (.cons ry .nil)) (by simpa using q)) (fun w s' z => ?_) fun _ _ x => x
  obtain ⟨z', H', I', rz, qz⟩ := z
  exact SlX.cmpback rz ⟨z', H', I', rz, qz⟩

/-- bool of an instance with its own __bool__, as a test -/
def rOwnB (C : Addr) (sp : Sp) (E : XK) : V → Hp → (Bool → Hp → Prop) → Prop := fun x H Q => ∃ a dx fs, x = .ref a ∧ H a = some (.ins C dx fs) ∧ sp [x] H (fun z H' => ∃ b, z = .bl b ∧ Q b H') E
theorem tru_own (hs : PySem.W.findIn X.K (.ref C) "__bool__" = some (some (.ref g))) (hf : PySem.W.isFn X.K (.ref g) = true)
    (F : FnOk X.prog X.w X.K X.mg X.base CX n g fd ps sp) (hb : Binds X.K fd ps []) (hr : Room n X.A) (hx : Passes CX X E) : TruR X (rOwnB C sp E) := by
  intro pins s σ H x v Q I rx h
  obtain ⟨a, dx, fs, rfl, ha, q⟩ := h
  cases (show v = Value.ref a from rx)
  obtain ⟨od, J⟩ := inst_of I ha
  obtain ⟨m, hF⟩ := I.fr
  refine PySem.W.truthy_K hF I.ok.mod.kin J hs hf ?_
  refine wpAny_mono (run_fn (us := [.ref a]) (vs := [.ref a]) (dvs := []) (ds := []) F hr hb .nil hx I (.cons rfl .nil) (by simpa using q)) (fun w s' z => ?_) fun _ _ x => x
  obtain ⟨z', H', I', rz, qz⟩ := z
  rcases qz with ⟨ez, qz⟩ | ⟨ez, qz⟩
  · subst ez
    cases (show w = Value.bool _ from rz)
    exact ⟨H', I', qz⟩
  · subst ez
    cases (show w = Value.bool _ from rz)
    exact ⟨H', I', qz⟩
end

/-! ### != by an own __eq__, and the reflected comparisons -/
section
variable {prog : Program} {w : World} {A : Around} {E : Value → Shared → Prop} {s : Shared} {K : PySem.W.Frag} {x C L f : Addr} {h₀ : Heap} {m : Str → Option Value} {ox : Obj} {od : Option Obj} {b tb : Value}
/-- a special that a class takes from a built-in one, called if bound -/
theorem ifBound_B {M : Model} {name : Str} {id : String} {args : List Value} {Q : Option Value → Shared → Prop} (X : K.In s.heap) (I : PySem.W.InstAt s.heap x ox C od) (hs : PySem.W.findIn K (.ref C) name = some (some (.builtin id)))
    (hb : ∀ self, bindSpecial (.builtin id) self = pure (.builtin id, [self])) (h : wpAny M A (call (.builtin id) (.ref x :: args)) (fun v => Q (some v)) E s) : wpAny M A (callSpecialIfBound? (.ref x) name args) Q E s := by
  simp only [callSpecialIfBound?, bindSpecialIfBound?]
  refine wpAny_holding (wpAny_bind (wpAny_bind (wpAny_bind (I.type.here ((PySem.W.looks_findIn X hs).here ?_)))))
  refine wpAny_bind (wpAny_askSetting (wpAny_ite ?_))
  have fin : wpAny M A (call (.builtin id) ([.ref x] ++ args) >>= fun v => pure (some v)) Q E s := wpAny_bind (wpAny_mono h (fun v s' h' => wpAny_pure h') fun _ _ h' => h')
  split
  · exact wpAny_bind ((PySem.W.Looks.of_pure (hb _)).here (wpAny_pure (by exact fin)))
  · exact wpAny_tryCatch (wpAny_bind ((PySem.W.Looks.of_pure (hb _)).here (wpAny_pure (by exact fin))))

/-- what an own == must give for != : a truth value -/
def NeBack (Q : Value → Shared → Prop) (v : Value) (s' : Shared) : Prop := ∃ k, v = .bool k ∧ Q (.bool (!k)) s'
theorem objNe_own {Q : Value → Shared → Prop} (hu : A.in1.units < cLine) (X : K.In s.heap) (I : PySem.W.InstAt s.heap x ox C od) (hm : PySem.W.mroIn K C (.type "object") = some true)
    (hs : PySem.W.findIn K (.ref C) "__eq__" = some (some (.ref f))) (hf : PySem.W.isFn K (.ref f) = true) (h : wpAny (model prog w) A.in1 (call (.ref f) [.ref x, b]) (NeBack Q) E s) :
    wpAny (model prog w) A (call (.builtin "object.__ne__") [.ref x, b]) Q E s := by
  refine wpAny_call (codeAny_call_builtin PySem.F.cmp_object.ne.plain PySem.F.cmpEntry_ne (PySem.W.check_slot (i := "object.__ne__") (owner := "object") (n := "__ne__") (by decide +kernel) (by decide +kernel) (I.type.andThen (PySem.W.looks_mroIn X hm)) (PySem.F.cmpArgs_ne _ _) ?_))
  unfold Builtin.«object.__ne__»
  refine wpAny_bind (m := slotArgs "__ne__" 1 _) (wpAny_pure ?_)
  refine wpAny_bind (m := cRoomFor _ _) (wpAny_cRoomFor hu ?_)
  refine wpAny_bind (m := callSpecialIfBound? (.ref x) (Str.ofString "__eq__") _) (PySem.W.ifBound_K X I hs hf (wpAny_mono h (fun r s' hq => ?_) fun _ _ y => y))
  obtain ⟨k, rfl, hq⟩ := hq
  exact wpAny_bind (wpAny_truthy_bool (wpAny_pure hq))
theorem ne_K {Q : Value → Shared → Prop} (hu : A.in1.units < cLine) (X : K.In s.heap) (I : PySem.W.InstAt s.heap x ox C od) (hb : PySem.W.Looks (model prog w) s.heap (typeOf b) tb) (hn : PySem.W.notFirst K C tb = true)
    (hne : PySem.W.findIn K (.ref C) "__ne__" = some (some (.builtin "object.__ne__"))) (hm : PySem.W.mroIn K C (.type "object") = some true)
    (hs : PySem.W.findIn K (.ref C) "__eq__" = some (some (.ref f))) (hf : PySem.W.isFn K (.ref f) = true)
    (h : wpAny (model prog w) A.in1 (call (.ref f) [.ref x, b]) (NeBack Q) E s) : wpAny (model prog w) A (richCompare .NotEq (.ref x) b) Q E s := by
  have one : wpAny (model prog w) A (tryCompare (.ref x) (cmpInfo .NotEq).2.1 b) (fun r s' => ∃ v, r = some v ∧ Q v s') E s := by
    unfold tryCompare
    refine wpAny_bind (ifBound_B X I hne PySem.F.cmp_object.ne.bind (objNe_own hu X I hm hs hf (wpAny_mono h (fun v s' hv => ?_) fun _ _ e => e)))
    obtain ⟨k, rfl, hq⟩ := hv
    exact ⟨k, rfl, wpAny_pure ⟨_, rfl, hq⟩⟩
  unfold richCompare
  simp only [oneThing_ref]
  refine wpAny_holding (wpAny_bind (wpAny_cRoomFor (Nat.lt_of_succ_lt hu) ?_))
  refine wpAny_bind (I.type.here (wpAny_bind (hb.here ?_)))
  split
  · rename_i q
    have e : PySem.W.subIn K tb (.ref C) = some false := by
      rcases Bool.or_eq_true_iff.mp hn with e | e
      · rw [beq_iff_eq.mp e] at q; simp at q
      · exact beq_iff_eq.mp e
    refine wpAny_bind ((PySem.W.looks_subIn X e).here ?_)
    simp only [Bool.false_eq_true, if_false]
    refine wpAny_bind (wpAny_mono one (fun r s' z => ?_) fun _ _ e => e)
    obtain ⟨v, rfl, hq⟩ := z
    exact wpAny_pure hq
  · refine wpAny_bind (wpAny_pure ?_)
    simp only [Bool.false_eq_true, if_false]
    refine wpAny_bind (wpAny_mono one (fun r s' z => ?_) fun _ _ e => e)
    obtain ⟨v, rfl, hq⟩ := z
    exact wpAny_pure hq
end
/-! ### the other side -/
section
variable {prog : Program} {w : World} {A : Around} {E : Value → Shared → Prop} {s : Shared} {K : PySem.W.Frag} {x C L f : Addr} {h₀ : Heap} {m : Str → Option Value} {ox : Obj} {od : Option Obj} {a tb : Value}
/-- a op x, where a (of the built-in type T) declines, and the instance x answers -/
theorem cmp_KR {op : CmpOp} {T : String} {Q : Value → Shared → Prop} (hu : A.units < cLine) (h1 : oneThing? op a (.ref x) = none) (ha : PySem.W.Looks (model prog w) s.heap (typeOf a) (.type T)) (X : K.In s.heap) (I : PySem.W.InstAt s.heap x ox C od)
    (hsub : PySem.W.subIn K (.ref C) (.type T) = some false)
    (hdec : ∀ (E : Value → Shared → Prop) (R : Option Value → Shared → Prop), R none s → wpAny (model prog w) A (tryCompare a (cmpInfo op).2.1 (.ref x)) R E s)
    (hr : wpAny (model prog w) A (tryCompare (.ref x) (cmpInfo op).2.2 a) (fun r s' => ∃ v, r = some v ∧ Q v s') E s) : wpAny (model prog w) A (richCompare op a (.ref x)) Q E s := by
  unfold richCompare
  simp only [h1]
  refine wpAny_holding (wpAny_bind (wpAny_cRoomFor hu ?_))
  refine wpAny_bind (ha.here (wpAny_bind (I.type.here ?_)))
  have ne : (Value.type T != Value.ref C) = true := by simp [bne]
  simp only [ne, if_true]
  refine wpAny_bind ((PySem.W.looks_subIn X hsub).here ?_)
  simp only [Bool.false_eq_true, if_false, Bool.not_false, if_true]
  refine wpAny_bind (hdec _ _ ?_)
  refine wpAny_bind (wpAny_mono hr (fun r s' z => ?_) fun _ _ e => e)
  obtain ⟨v, rfl, hq⟩ := z
  exact wpAny_pure hq
end
end SF

namespace SF
open PySem PySem.Spec PyProof.Rows L2
open AutoSeq1 (wpAny_loadPart')
open PySem.SeqAt

theorem int_eq_decl (b : Int) (u : Tok) (l C dx : Addr) :
    Meets (Builtin.«int.__eq__» ⟨[.int b u, .ref l], []⟩) (fun _ R s => s.heap.get? l = some (PySem.W.instObj C dx) ∧ R (.ok (.ret .notImplemented)) s) :=
  .of_wp fun prog w A R s h => by obtain ⟨hp, g, d, tk, os⟩ := s; obtain ⟨hl, h⟩ := h; wp_walk using wpAny_loadPart' hl, wpAny_load hl; exact ⟨_, rfl, h⟩
theorem int_ne_decl (b : Int) (u : Tok) (l C dx : Addr) :
    Meets (Builtin.«int.__ne__» ⟨[.int b u, .ref l], []⟩) (fun _ R s => s.heap.get? l = some (PySem.W.instObj C dx) ∧ R (.ok (.ret .notImplemented)) s) :=
  .of_wp fun prog w A R s h => by obtain ⟨hp, g, d, tk, os⟩ := s; obtain ⟨hl, h⟩ := h; wp_walk using wpAny_loadPart' hl, wpAny_load hl; exact ⟨_, rfl, h⟩
theorem bool_eq_decl (b : Bool) (l C dx : Addr) :
    Meets (Builtin.«int.__eq__» ⟨[.bool b, .ref l], []⟩) (fun _ R s => s.heap.get? l = some (PySem.W.instObj C dx) ∧ R (.ok (.ret .notImplemented)) s) :=
  .of_wp fun prog w A R s h => by obtain ⟨hp, g, d, tk, os⟩ := s; obtain ⟨hl, h⟩ := h; wp_walk using wpAny_loadPart' hl, wpAny_load hl; exact ⟨_, rfl, h⟩
theorem str_eq_decl (b : Str) (u : Tok) (l C dx : Addr) :
    Meets (Builtin.«str.__eq__» ⟨[.str b u, .ref l], []⟩) (fun _ R s => s.heap.get? l = some (PySem.W.instObj C dx) ∧ R (.ok (.ret .notImplemented)) s) :=
  .of_wp fun prog w A R s h => by obtain ⟨hp, g, d, tk, os⟩ := s; obtain ⟨hl, h⟩ := h; wp_walk using wpAny_loadPart' hl, wpAny_load hl; exact ⟨_, rfl, h⟩

/-- a list, a tuple, a dict: its __eq__ asks whether the other one is of its kind -/
theorem ref_isInst {M : Model} {A : Around} {E : Value → Shared → Prop} {s : Shared} {K : PySem.W.Frag} {x C : Addr} {ox : Obj} {od : Option Obj} {T : String} {Q : Bool → Shared → Prop}
    (X : K.In s.heap) (I : PySem.W.InstAt s.heap x ox C od) (hsub : PySem.W.subIn K (.ref C) (.type T) = some false) (q : Q false s) : wpAny M A (isInstance (.ref x) (.type T)) Q E s := by
  unfold isInstance
  exact wpAny_bind (I.type.here ((PySem.W.looks_subIn X hsub).here q))
section
variable {prog : Program} {w : World} {A : Around} {R : Result → Shared → Prop} {s : Shared} {K : PySem.W.Frag} {x C l : Addr} {ox : Obj} {od : Option Obj}
theorem list_eq_declK (X : K.In s.heap) (I : PySem.W.InstAt s.heap x ox C od) (hsub : PySem.W.subIn K (.ref C) (.type "list") = some false) (q : R (.ok (.ret .notImplemented)) s) :
    wpAny (model prog w) A.in1 (Builtin.«list.__eq__» ⟨[.ref l, .ref x], []⟩) (GQ.FinOf prog w A R) (fun e s' => R (.error e) s') s := by
  unfold Builtin.«list.__eq__»
  show wpAny _ _ (do
    let r ← isInstance (.ref x) (.type "list")
    _) _ _ s
  refine wpAny_bind (ref_isInst X I hsub ?_)
  exact wpAny_pure q
theorem tup_eq_declK (X : K.In s.heap) (I : PySem.W.InstAt s.heap x ox C od) (hsub : PySem.W.subIn K (.ref C) (.type "tuple") = some false) (q : R (.ok (.ret .notImplemented)) s) :
    wpAny (model prog w) A.in1 (Builtin.«tuple.__eq__» ⟨[.ref l, .ref x], []⟩) (GQ.FinOf prog w A R) (fun e s' => R (.error e) s') s := by
  unfold Builtin.«tuple.__eq__»
  show wpAny _ _ (do
    let r ← isInstance (.ref x) (.type "tuple")
    _) _ _ s
  refine wpAny_bind (ref_isInst X I hsub ?_)
  exact wpAny_pure q
theorem dict_eq_declK (X : K.In s.heap) (I : PySem.W.InstAt s.heap x ox C od) (hsub : PySem.W.subIn K (.ref C) (.type "dict") = some false) (q : R (.ok (.ret .notImplemented)) s) :
    wpAny (model prog w) A.in1 (Builtin.«dict.__eq__» ⟨[.ref l, .ref x], []⟩) (GQ.FinOf prog w A R) (fun e s' => R (.error e) s') s := by
  unfold Builtin.«dict.__eq__»
  show wpAny _ _ (do
    let r ← isInstance (.ref x) (.type "dict")
    _) _ _ s
  refine wpAny_bind (ref_isInst X I hsub ?_)
  exact wpAny_bind (wpAny_rule (wpAny_pure q))
end

section
variable {X : Cx} {CX : CXT} {n : Nat} {g : Addr} {fd : FuncData} {ps : List Str} {sp : Sp} {E : XK}
/-- a def run from within a builtin's body -/
theorem run_fnA {A : Around} {pins : List (Addr × Obj)} {σ : L2.St} {H : Hp} {s : Shared} {Q : VK} {us : List Value} {vs : List V} (F : FnOk X.prog X.w X.K X.mg X.base CX n g fd ps sp) (hr : Room n A) (hA : A.frames = X.A.frames) (hb : Binds X.K fd ps []) (hx : Passes CX X E)
    (I : Inv X pins σ H s) (r : Vals vs us) (h : sp vs H Q E) : wpAny (model X.prog X.w) A (call (.ref g) us) (EP X pins σ Q) X.xe s := by
  have e0 : Env0 X.prog X.w X.K X.mg X.base A X.stack s H := by
    have e := I.env0
    exact ⟨hA.trans e.frames, e.mod, e.bs, e.bsz, e.funs, e.frf, e.hok, e.bare⟩
  have hl : us.length = ps.length := r.length.symm.trans (F.len _ _ _ _ h)
  have hbb := hb s us I.kIn (by simpa using hl)
  rw [List.append_nil] at hbb
  refine wpAny_call (codeAny_mono (F.run A X.stack s H ⟨us, []⟩ us vs Q E hr e0 hbb r h) fun r s' hq => ?_)
  cases r with
  | error e => exact hx pins σ H s e s' I hq
  | ok fl =>
    cases fl with
    | ret u => exact I.after hq
    | next => exact False.elim hq
    | brk => exact False.elim hq
    | cont => exact False.elim hq
end

/-- the class at C stands below none of the built-in types met here -/
structure NoSub (K : PySem.W.Frag) (C : Addr) : Prop where
  all : ∀ T ∈ ["int", "bool", "str", "NoneType", "list", "tuple", "dict"], PySem.W.subIn K (.ref C) (.type T) = some false
/-- values of the built-in kinds whose == declines an own instance -/
inductive Dec (H : Hp) : V → String → Prop where
  | non : Dec H .non "NoneType"
  | bl (b : Bool) : Dec H (.bl b) "bool"
  | int (i : Int) : Dec H (.int i) "int"
  | str (x : Str) : Dec H (.str x) "str"
  | lst {a : Addr} {xs : List V} (e : H a = some (.lst xs)) : Dec H (.ref a) "list"
  | tup {a : Addr} {xs : List V} (e : H a = some (.tup xs)) : Dec H (.ref a) "tuple"
  | dK {a : Addr} {kvs : List (Key × V)} (e : H a = some (.dK kvs)) : Dec H (.ref a) "dict"
theorem Dec.mem {H : Hp} {x : V} {T : String} (d : Dec H x T) : T ∈ ["int", "bool", "str", "NoneType", "list", "tuple", "dict"] := by
  cases d <;> simp
theorem Dec.typ {K : PySem.W.Frag} {H : Hp} {x : V} {T : String} (d : Dec H x T) : TyX K H x (.type T) := by
  cases d with
  | non => exact .base .non
  | bl b => exact .base (.bl b)
  | int i => exact .base (.int i)
  | str y => exact .base (.str y)
  | lst e => exact .base (.lst e)
  | tup e => exact .base (.tup e)
  | dK e => exact .base (.dK e)
section
variable {X : Cx} {CX : CXT} {n : Nat} {C g : Addr} {fd : FuncData} {ps : List Str} {sp : Sp} {E : XK}
theorem dec_try {pins : List (Addr × Obj)} {σ : L2.St} {H : Hp} {s : Shared} {x : V} {v : Value} {T : String} {a dx : Addr} {od : Option Obj} (I : Inv X pins σ H s) (r : RelV x v) (d : Dec H x T)
    (J : PySem.W.InstAt s.heap a (PySem.W.instObj C dx) C od) (hsub : PySem.W.subIn X.K (.ref C) (.type T) = some false) {A : Around} {E : Value → Shared → Prop} {R : Option Value → Shared → Prop} (q : R none s) :
    wpAny (model X.prog X.w) A (tryCompare v "__eq__" (.ref a)) R E s := by
  cases d with
  | non =>
    cases (show v = Value.none from r)
    exact wpAny_tryCompare_declines (T := "NoneType") rfl F.slot_NoneType_eq (call_gives F.slot_NoneType_eq rfl F.entry_NoneType_eq (F.args_NoneType_eq_2 _ _) (NoneType___eq___none_ref_0 a) ⟨rfl, q⟩)
  | bl b =>
    cases (show v = Value.bool b from r)
    exact wpAny_tryCompare_declines (T := "bool") rfl F.slot_bool_eq (call_meets F.slot_bool_eq rfl F.entry_int_eq (F.args_int_eq_2 _ _) (bool_eq_decl b a C dx) ⟨J.at_, rfl, q⟩)
  | int i =>
    obtain ⟨t, e⟩ := (show ∃ t, v = Value.int i t from r)
    cases e
    exact wpAny_tryCompare_declines (typeIs_int s i t) F.slot_int_eq (call_meets F.slot_int_eq (typeIs_int s i t) F.entry_int_eq (F.args_int_eq_2 _ _) (int_eq_decl i t a C dx) ⟨J.at_, rfl, q⟩)
  | str y =>
    obtain ⟨t, e⟩ := (show ∃ t, v = Value.str y t from r)
    cases e
    exact wpAny_tryCompare_declines (typeIs_str s y t) F.slot_str_eq (call_meets F.slot_str_eq (typeIs_str s y t) F.entry_str_eq (F.args_str_eq_2 _ _) (str_eq_decl y t a C dx) ⟨J.at_, rfl, q⟩)
  | @lst b xs e =>
    cases (show v = Value.ref b from r)
    obtain ⟨_, its, k, _, h1⟩ := (show ObjOk X.prog X.w H s.heap b (.lst xs) from I.hok b _ e)
    exact wpAny_tryCompare_declines ⟨_, h1, rfl⟩ F.slot_list_eq (GQ.call_here F.slot_list_eq ⟨_, h1, rfl⟩ F.entry_list_eq (F.args_list_eq_2 _ _) (list_eq_declK I.kIn J hsub ⟨rfl, q⟩))
  | @tup b xs e =>
    cases (show v = Value.ref b from r)
    obtain ⟨_, its, _, o, h1, h2, _⟩ := (show ObjOk X.prog X.w H s.heap b (.tup xs) from I.hok b _ e)
    exact wpAny_tryCompare_declines ⟨_, h1, h2⟩ F.slot_tuple_eq (GQ.call_here F.slot_tuple_eq ⟨_, h1, h2⟩ F.entry_tuple_eq (F.args_tuple_eq_2 _ _) (tup_eq_declK I.kIn J hsub ⟨rfl, q⟩))
  | @dK b kvs e =>
    cases (show v = Value.ref b from r)
    obtain ⟨_, _, vs, _, o, es, ep, h1, h2, _⟩ := (show ObjOk X.prog X.w H s.heap b (.dK kvs) from I.hok b _ e)
    exact wpAny_tryCompare_declines ⟨_, h1, h2.1⟩ F.slot_dict_eq (GQ.call_here F.slot_dict_eq ⟨_, h1, h2.1⟩ F.entry_dict_eq (F.args_dict_eq_2 _ _) (dict_eq_declK I.kIn J hsub ⟨rfl, q⟩))
theorem dec_one {H : Hp} {x : V} {v : Value} {T : String} (r : RelV x v) (d : Dec H x T) (op : CmpOp) (u : Value) : oneThing? op v u = none := by
  cases d with
  | non => cases (show v = Value.none from r); rfl
  | bl b => cases (show v = Value.bool b from r); rfl
  | int i => obtain ⟨t, e⟩ := (show ∃ t, v = Value.int i t from r); cases e; rfl
  | str y => obtain ⟨t, e⟩ := (show ∃ t, v = Value.str y t from r); cases e; rfl
  | @lst b xs e => cases (show v = Value.ref b from r); rfl
  | @tup b xs e => cases (show v = Value.ref b from r); rfl
  | @dK b xs e => cases (show v = Value.ref b from r); rfl

/-- x == y, x of a built-in kind, y an instance of the class at C with its own == at g -/
def rOwnR (C : Addr) (sp : Sp) (E : XK) : R2 := fun x y H Q => ∃ T a dx fs, y = .ref a ∧ H a = some (.ins C dx fs) ∧ Dec H x T ∧ sp [y, x] H Q E
theorem op_ownR (hs : PySem.W.findIn X.K (.ref C) "__eq__" = some (some (.ref g))) (hf : PySem.W.isFn X.K (.ref g) = true) (hN : NoSub X.K C)
    (F : FnOk X.prog X.w X.K X.mg X.base CX n g fd ps sp) (hb : Binds X.K fd ps []) (hr : Room n X.A) (hx : Passes CX X E) : OpR X (compareOp .Eq) (rOwnR C sp E) := by
  intro pins s σ H x y v u Q I rx ry h
  obtain ⟨T, a, dx, fs, rfl, ha, d, q⟩ := h
  cases (show u = Value.ref a from ry)
  obtain ⟨od, J⟩ := inst_of I ha
  obtain ⟨P, kt, hP, _⟩ := kit_of I rx d.typ
  have hsub := hN.all T d.mem
  show wpAny (model X.prog X.w) X.A (richCompare .Eq v (.ref a)) (EP X pins σ Q) X.xe s
  refine cmp_KR (op := .Eq) (T := T) hr.units0 (dec_one rx d _ _) (kt.ty _ _ I.kIn hP) I.kIn J hsub (fun E R hR => dec_try I rx d J hsub hR) ?_
  unfold tryCompare
  refine wpAny_bind (PySem.W.ifBound_K I.kIn J hs hf ?_)
  refine wpAny_mono (run_fn (us := [.ref a, v]) (vs := [.ref a, x]) (dvs := []) (ds := []) F hr hb .nil hx I (.cons rfl (.cons rx .nil)) (by simpa using q)) (fun w s' z => ?_) fun _ _ x => x
  obtain ⟨z', H', I', rz, qz⟩ := z
  have cb : PySem.W.CmpBack (fun w s' => EP X pins σ Q w s') w s' := SlX.cmpback rz ⟨z', H', I', rz, qz⟩
  cases w <;> first | exact cb.elim | exact wpAny_pure ⟨_, rfl, cb⟩

/-- what the own == gives, for != -/
def neQ (Q : VK) : VK := fun z H' => ∃ k, z = .bl k ∧ Q (.bl (!k)) H'
/-- x != y by the own == of x, an instance -/
def rOwnNeL (K : PySem.W.Frag) (C : Addr) (sp : Sp) (E : XK) : R2 := fun x y H Q => ∃ a dx fs tb, x = .ref a ∧ H a = some (.ins C dx fs) ∧ TyX K H y tb ∧ PySem.W.notFirst K C tb = true ∧ sp [x, y] H (neQ Q) E
theorem op_ownNeL (hne : PySem.W.findIn X.K (.ref C) "__ne__" = some (some (.builtin "object.__ne__"))) (hm : PySem.W.mroIn X.K C (.type "object") = some true)
    (hs : PySem.W.findIn X.K (.ref C) "__eq__" = some (some (.ref g))) (hf : PySem.W.isFn X.K (.ref g) = true)
    (F : FnOk X.prog X.w X.K X.mg X.base CX n g fd ps sp) (hb : Binds X.K fd ps []) (hr : Room (n + 1) X.A) (hx : Passes CX X E) : OpR X (compareOp .NotEq) (rOwnNeL X.K C sp E) := by
  intro pins s σ H x y v u Q I rx ry h
  obtain ⟨a, dx, fs, tb, rfl, ha, ty, hn, q⟩ := h
  cases (show v = Value.ref a from rx)
  obtain ⟨od, J⟩ := inst_of I ha
  obtain ⟨P, kt, hP, _⟩ := kit_of I ry ty
  show wpAny (model X.prog X.w) X.A (richCompare .NotEq (.ref a) u) (EP X pins σ Q) X.xe s
  refine ne_K (tb := tb) hr.in1.units0 I.kIn J (kt.ty _ _ I.kIn hP) hn hne hm hs hf ?_
  refine wpAny_mono (run_fnA (us := [.ref a, u]) (vs := [.ref a, y]) F hr.in1 rfl hb hx I (.cons rfl (.cons ry .nil)) q) (fun w s' z => ?_) fun _ _ x => x
  obtain ⟨z', H', I', rz, qz⟩ := z
  obtain ⟨k, ez, qz⟩ := qz
  subst ez
  cases (show w = Value.bool _ from rz)
  exact ⟨_, rfl, .bl _, H', I', rfl, qz⟩

/-- i != y, i an int, y an instance of the class at C -/
def rOwnNeR (C : Addr) (sp : Sp) (E : XK) : R2 := fun x y H Q => ∃ i a dx fs, x = .int i ∧ y = .ref a ∧ H a = some (.ins C dx fs) ∧ sp [y, x] H (neQ Q) E
theorem op_ownNeR (hne : PySem.W.findIn X.K (.ref C) "__ne__" = some (some (.builtin "object.__ne__"))) (hm : PySem.W.mroIn X.K C (.type "object") = some true)
    (hs : PySem.W.findIn X.K (.ref C) "__eq__" = some (some (.ref g))) (hf : PySem.W.isFn X.K (.ref g) = true) (hN : NoSub X.K C)
    (F : FnOk X.prog X.w X.K X.mg X.base CX n g fd ps sp) (hb : Binds X.K fd ps []) (hr : Room (n + 1) X.A) (hx : Passes CX X E) : OpR X (compareOp .NotEq) (rOwnNeR C sp E) := by
  intro pins s σ H x y v u Q I rx ry h
  obtain ⟨i, a, dx, fs, rfl, rfl, ha, q⟩ := h
  cases (show u = Value.ref a from ry)
  obtain ⟨t, e⟩ := (show ∃ t, v = Value.int i t from rx)
  cases e
  obtain ⟨od, J⟩ := inst_of I ha
  show wpAny (model X.prog X.w) X.A (richCompare .NotEq (.int i t) (.ref a)) (EP X pins σ Q) X.xe s
  refine cmp_KR (op := .NotEq) (T := "int") hr.units0 rfl (PySem.W.Looks.of_pure rfl) I.kIn J (hN.all _ (by simp)) (fun E R hR => ?_) ?_
  · exact wpAny_tryCompare_declines (typeIs_int s i t) PySem.F.slot_int_ne (call_meets PySem.F.slot_int_ne (typeIs_int s i t) PySem.F.entry_int_ne (PySem.F.args_int_ne_2 _ _) (int_ne_decl i t a C _) ⟨J.at_, rfl, hR⟩)
  · unfold tryCompare
    refine wpAny_bind (ifBound_B I.kIn J hne PySem.F.cmp_object.ne.bind (objNe_own hr.in1.units0 I.kIn J hm hs hf ?_))
    refine wpAny_mono (run_fnA (us := [.ref a, .int i t]) (vs := [.ref a, .int i]) F hr.in1 rfl hb hx I (.cons rfl (.cons rx .nil)) q) (fun w s' z => ?_) fun _ _ x => x
    obtain ⟨z', H', I', rz, qz⟩ := z
    obtain ⟨k, ez, qz⟩ := qz
    subst ez
    cases (show w = Value.bool _ from rz)
    exact ⟨k, rfl, wpAny_pure ⟨_, rfl, .bl _, H', I', rfl, qz⟩⟩

/-- str(x), repr(x), bool(x) of an instance by its own defs -/
def rOwnStr (C : Addr) (sp : Sp) (E : XK) : List V → Hp → VK → Prop := fun xs H Q => ∃ a dx fs, xs = [V.ref a] ∧ H a = some (.ins C dx fs) ∧ sp [.ref a] H (fun z H' => ∃ y, z = .str y ∧ Q z H') E
theorem call_reprOwn (hs : PySem.W.findIn X.K (.ref C) "__repr__" = some (some (.ref g))) (hf : PySem.W.isFn X.K (.ref g) = true)
    (F : FnOk X.prog X.w X.K X.mg X.base CX n g fd ps sp) (hb : Binds X.K fd ps []) (hr : Room (n + 1) X.A) (hx : Passes CX X E) : CallR X (.builtin "repr") (rOwnStr C sp E) := by
  intro pins s σ H xs us Q I r h
  obtain ⟨a, dx, fs, rfl, ha, q⟩ := h
  obtain ⟨u, rfl, ru⟩ := r.one
  cases (show u = Value.ref a from ru)
  obtain ⟨od, J⟩ := inst_of I ha
  obtain ⟨m, hF⟩ := I.fr
  refine PySem.W.repr_K hr.in1.units0 hF I.ok.mod.kin J hs hf ?_
  refine wpAny_mono (run_fnA (us := [.ref a]) (vs := [.ref a]) F hr.in1 rfl hb hx I (.cons rfl .nil) q) (fun w s' z => ?_) fun _ _ x => x
  obtain ⟨z', H', I', rz, qz⟩ := z
  obtain ⟨y, ez, qz⟩ := qz
  subst ez
  obtain ⟨t, e⟩ := (show ∃ t, w = Value.str y t from rz)
  cases e
  exact ⟨.str y, H', I', ⟨t, rfl⟩, qz⟩
end
end SF

namespace SFx
open PySem PySem.Spec PyProof.Rows
section
variable {prog : Program} {w : World} {A : Around} {E : Value → Shared → Prop} {s : Shared} {K : PySem.W.Frag} {x C f : Addr} {ox : Obj} {od : Option Obj}
open Builtin Builtin.Str in
/-- str(x) by an own __str__ -/
theorem str_own {Q : Value → Shared → Prop} (hu : A.in1.in1.units < cLine) (X : K.In s.heap) (I : PySem.W.InstAt s.heap x ox C od) (hs : PySem.W.findIn K (.ref C) "__str__" = some (some (.ref f)))
    (hf : PySem.W.isFn K (.ref f) = true) (h : wpAny (model prog w) A.in1.in1 (call (.ref f) [.ref x]) (PySem.W.StrBack Q) E s) : wpAny (model prog w) A (call (.type "str") [.ref x]) Q E s := by
  refine callType_codes (T := "str") (Bi := Builtin.«object.__init__») (Q₁ := fun r s₁ => ∃ y u, r = .str y u ∧ Q r s₁) PySem.F.called_str (PySem.F.typeCall_str_1 _) PySem.F.entry_object_init ?_ ?_
  · refine codeAny_of_tree ?_
    show wpAny _ A.in1.in1 (do checkBuiltinCall "str.__new__" ⟨[.type "str", .ref x], []⟩; again (.builtin "str.__new__" ⟨[.type "str", .ref x], []⟩)) _ _ s
    refine wpAny_bind (wpAny_of_eq (PySem.F.newCall_str_1 _) (wpAny_pure ⟨plainId_quiet (by decide +kernel) _, codeAny_builtin PySem.F.entry_str_new ?_⟩))
    rw [Around.under_plainId (by decide +kernel) _]
    rw [str_new_tree]
    refine wpAny_bind (wpAny_pure ?_)
    refine wpAny_bind (wpAny_of_eq isSubtype_str_str ?_)
    have key : wpAny (model prog w) A.in1.in1 (PySem.Builtin.Str.strOf (.ref x)) (fun r s₁ => ∃ y u, r = .str y u ∧ Q r s₁) E s := by
      unfold PySem.Builtin.Str.strOf
      rw [show isExactStr (.ref x) = false from rfl]
      refine wpAny_bind (m := cRoomFor _ _) (wpAny_cRoomFor hu ?_)
      refine wpAny_bind (m := callSpecial? (.ref x) (Str.ofString "__str__")) (PySem.W.special_fn X I hs (beq_iff_eq.mp hf) (wpAny_mono h (fun r s' z => ?_) fun _ _ y => y))
      cases r <;> first | exact z.elim | exact wpAny_pure ⟨_, _, rfl, z⟩
    exact wpAny_bind (wpAny_mono key (fun r s₁ hr => wpAny_pure hr) fun _ _ y => y)
  · rintro obj s₁ ⟨y, u, rfl, hq⟩
    exact ⟨typeIs_str _ _ _, PySem.F.args_object_init_2 _ _, object_init_meets PySem.F.called_str.init.lookup PySem.F.called_str.made (by decide) prog w A.in1 _ s₁ ⟨typeIs_str _ _ _, rfl, hq⟩⟩

theorem meets_bool_own : MeetsIn prog w (Builtin.«bool.__new__» ⟨[.type "bool", .ref x], []⟩)
    (fun A R s => wpAny (model prog w) A.in1 (truthy (.ref x)) (fun b s' => R (.ok (.ret (.bool b))) s') (fun e s' => R (.error e) s') s) :=
  MeetsIn.of_wp fun A R s hs => by
    have f1 := PySem.F.conv_sub_bool
    have hs' : wpAny (model prog w) A.in1 (truthy (.ref x)) (fun b s' => wpAny (model prog w) A.in1 (ret (.bool b)) (fun fin s' => ∃ v, fin = .done (.ret v) ∧ R (.ok (.ret v)) s') (fun e s' => R (.error e) s') s') (fun e s' => R (.error e) s') s :=
      wpAny_mono hs (fun b s' q => wpAny_pure ⟨_, rfl, q⟩) fun _ _ e => e
    unfold Builtin.«bool.__new__»
    repeat (any_goals (first | assumption | exact wpAny_bind hs' | (with_reducible refine wpAny_bind hs' ) | wp_step))
theorem bool_own {Q : Value → Shared → Prop} (h : wpAny (model prog w) A.in1.in1 (truthy (.ref x)) (fun b s' => Q (.bool b) s') E s) : wpAny (model prog w) A (call (.type "bool") [.ref x]) Q E s :=
  callType_newIn PySem.F.called_bool PySem.F.newNe_bool (PySem.F.typeCall_bool_1 _) (PySem.F.newCall_bool_1 _) (fun obj => PySem.F.args_object_init_2 obj _) PySem.F.entry_bool_new meets_bool_own
    (wpAny_mono h (fun b s' q => ⟨rfl, q⟩) fun _ _ e => e)
end
end SFx
namespace SF
open PySem PySem.Spec PyProof.Rows L2
section
variable {X : Cx} {CX : CXT} {n : Nat} {C g : Addr} {fd : FuncData} {ps : List Str} {sp : Sp} {E : XK}
theorem call_strOwn (hs : PySem.W.findIn X.K (.ref C) "__str__" = some (some (.ref g))) (hf : PySem.W.isFn X.K (.ref g) = true)
    (F : FnOk X.prog X.w X.K X.mg X.base CX n g fd ps sp) (hb : Binds X.K fd ps []) (hr : Room (n + 2) X.A) (hx : Passes CX X E) : CallR X (.type "str") (rOwnStr C sp E) := by
  intro pins s σ H xs us Q I r h
  obtain ⟨a, dx, fs, rfl, ha, q⟩ := h
  obtain ⟨u, rfl, ru⟩ := r.one
  cases (show u = Value.ref a from ru)
  obtain ⟨od, J⟩ := inst_of I ha
  have hr2 : Room n X.A.in1.in1 := (show Room (n + 1) X.A.in1 from Room.in1 hr).in1
  refine SFx.str_own hr2.units0 I.kIn J hs hf ?_
  refine wpAny_mono (run_fnA (us := [.ref a]) (vs := [.ref a]) F hr2 rfl hb hx I (.cons rfl .nil) q) (fun w s' z => ?_) fun _ _ x => x
  obtain ⟨z', H', I', rz, qz⟩ := z
  obtain ⟨y, ez, qz⟩ := qz
  subst ez
  obtain ⟨t, e⟩ := (show ∃ t, w = Value.str y t from rz)
  cases e
  exact ⟨.str y, H', I', ⟨t, rfl⟩, qz⟩
def rOwnBool (C : Addr) (sp : Sp) (E : XK) : List V → Hp → VK → Prop := fun xs H Q => ∃ a dx fs, xs = [V.ref a] ∧ H a = some (.ins C dx fs) ∧ sp [.ref a] H (fun z H' => ∃ k, z = .bl k ∧ Q (.bl k) H') E
theorem call_boolOwn (hs : PySem.W.findIn X.K (.ref C) "__bool__" = some (some (.ref g))) (hf : PySem.W.isFn X.K (.ref g) = true)
    (F : FnOk X.prog X.w X.K X.mg X.base CX n g fd ps sp) (hb : Binds X.K fd ps []) (hr : Room (n + 2) X.A) (hx : Passes CX X E) : CallR X (.type "bool") (rOwnBool C sp E) := by
  intro pins s σ H xs us Q I r h
  obtain ⟨a, dx, fs, rfl, ha, q⟩ := h
  obtain ⟨u, rfl, ru⟩ := r.one
  cases (show u = Value.ref a from ru)
  obtain ⟨od, J⟩ := inst_of I ha
  obtain ⟨m, hF⟩ := I.fr
  have hr2 : Room n X.A.in1.in1 := (show Room (n + 1) X.A.in1 from Room.in1 hr).in1
  refine SFx.bool_own (PySem.W.truthy_K hF I.ok.mod.kin J hs hf ?_)
  refine wpAny_mono (run_fnA (us := [.ref a]) (vs := [.ref a]) F hr2 rfl hb hx I (.cons rfl .nil) q) (fun w s' z => ?_) fun _ _ x => x
  obtain ⟨z', H', I', rz, qz⟩ := z
  obtain ⟨k, ez, qz⟩ := qz
  subst ez
  cases (show w = Value.bool k from rz)
  exact ⟨.bl k, H', I', rfl, qz⟩
end

/-! ### repr of a list of flat things -/
def flatD : V → Option PyData
  | .non => some .none
  | .bl b => some (.bool b)
  | .int i => if i.natAbs.log2 < 1920 then some (.int i) else none
  | .str x => some (.str x)
  | _ => none
def flatDs : List V → Option (List PyData)
  | [] => some []
  | x :: xs => match flatD x, flatDs xs with
    | some d, some ds => some (d :: ds)
    | _, _ => none
theorem flat_reads {h : Heap} {x : V} {v : Value} {d : PyData} (r : RelV x v) (e : flatD x = some d) : Reads h v d [] ∧ d.showable = true ∧ d.depth = 0 ∧ d.hasDict = false := by
  cases x with
  | non => cases e; cases (show v = Value.none from r); exact ⟨.none, rfl, rfl, rfl⟩
  | bl b => cases e; cases (show v = Value.bool b from r); exact ⟨.bool b, rfl, rfl, rfl⟩
  | int i =>
    obtain ⟨t, rfl⟩ := (show ∃ t, v = Value.int i t from r)
    have e' : (if i.natAbs.log2 < 1920 then some (PyData.int i) else none) = some d := e
    by_cases hi : i.natAbs.log2 < 1920
    · rw [if_pos hi] at e'
      cases e'
      exact ⟨.int i t, by simp [PyData.showable, hi], rfl, rfl⟩
    · rw [if_neg hi] at e'
      cases e'
  | str y =>
    obtain ⟨t, rfl⟩ := (show ∃ t, v = Value.str y t from r)
    cases e
    exact ⟨.str y t, rfl, rfl, rfl⟩
  | byt _ => cases e
  | flt _ => cases e
  | ref _ => cases e
  | ty _ => cases e
theorem flats_reads {h : Heap} : ∀ {xs : List V} {vs : List Value} {ds : List PyData}, Vals xs vs → flatDs xs = some ds → ReadsAll h vs ds [] ∧ PyData.showableAll ds = true ∧ PyData.depthAll ds = 0 ∧ PyData.hasDictAll ds = false
  | _, _, _, .nil, e => by cases e; exact ⟨.nil, rfl, rfl, rfl⟩
  | _, _, _, .cons r t, e => by
    unfold flatDs at e
    split at e
    · rename_i d ds h1 h2
      cases e
      obtain ⟨a1, a2, a3, a4⟩ := flat_reads (h := h) r h1
      obtain ⟨b1, b2, b3, b4⟩ := flats_reads t h2
      exact ⟨.cons a1 b1, by simp [PyData.showableAll, a2, b2], by simp [PyData.depthAll, a3, b3], by simp [PyData.hasDictAll, a4, b4]⟩
    · cases e
section
variable {X : Cx}
def rReprL : List V → Hp → VK → Prop := fun xs H Q => ∃ a zs ds, xs = [V.ref a] ∧ H a = some (.lst zs) ∧ flatDs zs = some ds ∧ (PyData.list ds).shown.length ≤ sizeLine ∧ Q (.str (PyData.list ds).shown) H
theorem call_reprL {k : Nat} (hg : X.A.guards = some []) (hr : Room k X.A) : CallR X (.builtin "repr") rReprL := by
  intro pins s σ H xs us Q I r h
  obtain ⟨a, zs, ds, rfl, ha, hd, hz, q⟩ := h
  obtain ⟨u, rfl, ru⟩ := r.one
  cases (show u = Value.ref a from ru)
  obtain ⟨_, its, n, rv, h1⟩ := (show ObjOk X.prog X.w H s.heap a (.lst zs) from I.hok a _ ha)
  obtain ⟨b1, b2, b3, b4⟩ := flats_reads (h := s.heap) rv hd
  have R : Reads s.heap (.ref a) (.list ds) [a] := .list (as := []) h1 rfl rfl (by simpa using b1)
  refine repr_of_reads' R (by simpa [PyData.showable] using b2) (PyData.noDict_hsm (by simpa [PyData.hasDict] using b4)) hg (by have := hr.un; simp only [PyData.depth, b3]; omega) (fun _ _ e => e) (fun h' u tk hk => ?_) hz
  exact ⟨.str _, H, I.kept hk, ⟨u, rfl⟩, q⟩
end
end SF

namespace T02
open PySem L2 SF
def top (i : Nat) : Stmt := PySem.Challenge.pw_seriesforms_k02_ratios_in_lowest_terms.main.body.getD i (.Pass ⟨0, 0, 0, 0⟩)
abbrev sCell : Stmt := top 24
abbrev sSource : Stmt := top 25
abbrev sDraw : Stmt := top 26
abbrev sCommon : Stmt := top 27
abbrev sLowest : Stmt := top 28
abbrev sWhole : Stmt := top 29
abbrev sParts : Stmt := top 30
/-- the built-in names that the law's helpers call -/
structure Blt (mg : Str → Option Value) : Prop where
  len : mg "len" = none
  int : mg "int" = none
  abs : mg "abs" = none
  dvm : mg "divmod" = none
section
variable {P : Program} {w : World} {K : PySem.W.Frag} {mg : Str → Option Value} {base : Heap}
theorem scCell : FnScope ["_law_cells", "_law_k", "_law_mixed", "_law_cell_here"] ["_law_cells", "_law_k"] (defScope sCell) := ⟨rfl, rfl, rfl, by decide +kernel, rfl, by decide +kernel, by decide +kernel⟩
def spCell (K : PySem.W.Frag) : Sp := fun vs H Q _ => ∃ (a : Addr) (ns : List Int) (k : Int), vs = [.ref a, .int k] ∧ SqL K H a (ns.map V.int) ∧ ns.length ≤ 63 ∧ 0 ≤ k ∧ k ≤ 63 ∧ ∀ z H', Same H H' → Q (.int z) H'
theorem ok_cell {f : Addr} {fd : FuncData} (F : Fun K "_law_cell" "_law_cell" sCell f fd) (T : Blt mg) : FnOk P w K mg base CX0 1 f fd ["_law_cells", "_law_k"] (spCell K) := by
  refine F.ok scCell (fun vs H Q E h => ?_) (fun cdv A outer s H vs Q E hr h => ?_)
  · obtain ⟨a, ns, k, rfl, _⟩ := h
    rfl
  · obtain ⟨a, ns, k, rfl, hS, hl, h0, h1, q⟩ := h
    refine ⟨_, pss_cons (ps_if (pt_cmpR op_lt (pv 1) (pe_callB call_len_seq (by rfl) T.len PySem.boot_len (pa_cons (pv 0) pa_nil)) (nomark _)) (pss_one (ps_ret (pe_callTy call_int1 (by rfl) T.int (by decide +kernel) (pa_cons (pe_ix ix_list (pv 0) (pv 1) (fun _ _ => rfl)) pa_nil)))) pss_nil)
      (pss_cons (ps_set (i := 2) scCell.nd rfl (.inl rfl) (pe_op op_add (pe_op op_add pe_int (pe_op op_mul (pe_op op_mul pe_int (pv 1)) (pv 1))) (pe_op op_mul pe_int (pv 1))))
      (pss_cons (ps_for PassesOwn.never rfl (pi_list (pe_slice sl_list (pv 0) po_none (po_some pe_int))) (pg_name (i := 3) scCell.nd rfl (.inl rfl))
        (pss_one (ps_set (i := 2) scCell.nd rfl (.inl rfl) (pe_op op_mod (pe_callTy call_int1 (by rfl) T.int (by decide +kernel) (pa_cons (pe_op op_add (pe_op op_mul (pv 2) pe_int) (pe_op op_mul (pe_callTy call_int1 (by rfl) T.int (by decide +kernel) (pa_cons (pv 3) pa_nil)) (pe_op op_add (pv 1) pe_int))) pa_nil)) pe_int))))
      (pss_one (ps_ret (pv 2))))), ?_⟩
    refine ⟨_, rfl, _, rfl, a, _, rfl, .inl hS, _, _, rfl, rfl, _, rfl, ?_⟩
    have hlen : ((ns.map V.int).length : Int) = (ns.length : Int) := by rw [List.length_map]
    refine ite2 (fun hc => ?_) (fun hc => ?_)
    · have hk : k < (ns.length : Int) := by rw [← hlen]; exact of_decide_eq_true hc
      have hj : k.toNat < ns.length := by omega
      refine ⟨_, rfl, _, rfl, a, _, k, .int ns[k.toNat], rfl, rfl, hS, at_of (j := k.toNat) (by omega) (by rw [List.getElem?_map, List.getElem?_eq_getElem hj]; rfl), .inl ⟨_, rfl, ?_⟩⟩
      exact q _ _ (Same.refl _)
    · refine ⟨_, rfl, 7, k, rfl, rfl, .inl ⟨by decide, by decide⟩, _, rfl, _, _, rfl, rfl, .inr ⟨by omega, by omega⟩, _, _, rfl, rfl, _, rfl, 3, k, rfl, rfl, .inl ⟨by decide, by decide⟩, _, _, rfl, rfl, ?_⟩
      refine ⟨_, rfl, _, rfl, a, _, rfl, hS, fun p hp => ?_⟩
      have hp' : H p = none := hp
      refine ⟨p, rfl, ⟨_, SqL.of upd_same⟩, for_list (K := K) (a := p) (xs := cutV (ns.map V.int) none (some 4)) (fun i σ H' => H' = upd H p (.lst (cutV (ns.map V.int) none (some 4))) ∧ ∃ m v, σ = [some (.ref a), some (.int k), some (.int m), v]) ⟨rfl, _, none, rfl⟩ (fun i σ H' _ ⟨e, _⟩ => by rw [e]; exact SqL.of upd_same) ?_ ?_⟩
      · rintro i y σ H' hi ⟨rfl, m, v, rfl⟩
        obtain ⟨z, rfl⟩ : ∃ z, y = V.int z := by
          have hm : y ∈ cutV (ns.map V.int) none (some 4) := List.mem_of_getElem? hi
          unfold cutV at hm
          obtain ⟨z, _, e⟩ := List.mem_map.mp (List.mem_of_mem_drop (List.mem_of_mem_take hm))
          exact ⟨z, e.symm⟩
        refine ⟨_, rfl, m, 69621, rfl, rfl, .inr ⟨by decide, by decide⟩, _, rfl, .inl ⟨z, rfl, _, rfl, _, _, rfl, rfl, z, k + 3, rfl, rfl, .inr ⟨by omega, by omega⟩, _, _, rfl, rfl, .inl ⟨_, rfl, _, _, rfl, rfl, (by show (0 : Int) < 2147483629; decide), ?_⟩⟩⟩
        exact ⟨rfl, _, _, rfl⟩
      · rintro σ H' ⟨rfl, m, v, rfl⟩
        refine ⟨_, rfl, q _ _ fun b o e => ?_⟩
        rw [upd_ne (ne_of_none e hp')]
        exact e
/-- a list of three ints: the law's source of draws -/
def SrcAt (H : Hp) (a : Addr) : Prop := ∃ x y z : Int, H a = some (.lst [.int x, .int y, .int z])
/-- all that was tracked but the thing at a is as it was -/
def But (a : Addr) (H H' : Hp) : Prop := ∀ b o, b ≠ a → H b = some o → H' b = some o
theorem But.refl (a : Addr) (H : Hp) : But a H H := fun _ _ _ e => e
theorem But.trans {a : Addr} {H H1 H2 : Hp} (x : But a H H1) (y : But a H1 H2) : But a H H2 := fun b o n e => y b o n (x b o n e)
theorem But.upd {a : Addr} {H : Hp} {o : HO} : But a H (upd H a o) := fun b u n e => by rw [upd_ne n]; exact e
theorem But.new {a p : Addr} {H H1 : Hp} {o : HO} (x : But a H H1) (h : H1 p = none) : But a H (L2.upd H1 p o) := fun b u n e => by rw [upd_ne (ne_of_none (x b u n e) h)]; exact x b u n e
theorem SrcAt.ne {H : Hp} {a p : Addr} (s : SrcAt H a) (h : H p = none) : a ≠ p := by
  obtain ⟨x, y, z, e⟩ := s
  exact ne_of_none e h

theorem scSource : FnScope ["_law_cell_here", "_law_great"] ["_law_cell_here"] (defScope sSource) := ⟨rfl, rfl, rfl, by decide +kernel, rfl, by decide +kernel, by decide +kernel⟩
def spSource : Sp := fun vs H Q _ => ∃ c : Int, vs = [.int c] ∧ ∀ p H', H p = none → Same H H' → SrcAt H' p → Q (.ref p) H'
theorem ok_source {f : Addr} {fd : FuncData} (F : Fun K "_law_source" "_law_source" sSource f fd) (T : Blt mg) : FnOk P w K mg base CX0 1 f fd ["_law_cell_here"] spSource := by
  refine F.ok scSource (fun vs H Q E h => ?_) (fun cdv A outer s H vs Q E hr h => ?_)
  · obtain ⟨c, rfl, _⟩ := h
    rfl
  · obtain ⟨c, rfl, q⟩ := h
    refine ⟨_, pss_cons (ps_set (i := 1) scSource.nd rfl (.inl rfl) (pe_ifExp (pt_cmpR op_ge (pe_callB call_abs (by rfl) T.abs (by decide +kernel) (pa_cons (pv 0) pa_nil)) (pe_op op_pow pe_int pe_int) (nomark _)) (pe_callB call_abs (by rfl) T.abs (by decide +kernel) (pa_cons (pv 0) pa_nil)) pe_int))
      (pss_one (ps_ret (pe_lst (pa_cons (pe_op op_mod (pe_callTy call_int1 (by rfl) T.int (by decide +kernel) (pa_cons (pe_op op_add (pe_op op_mul (pv 0) pe_int) pe_int) pa_nil)) pe_int) (pa_cons (pv 1) (pa_cons pe_int pa_nil)))))), ?_⟩
    have tail : ∀ g : Int, tRet (tLst (tCons (tOp (rI (fun _ j => 0 < j) fun i j => V.int (i % j)) (tCB (fun xs H Q => (∃ i, xs = [V.int i] ∧ Q (V.int i) H) ∨ ∃ k, xs = [V.bl k] ∧ Q (V.int (if k = true then 1 else 0)) H) (tCons (tOp (rI0 fun i j => V.int (i + j)) (tOp (rI CMul fun i j => V.int (i * j)) (tVar 0) (tC (V.int 48271))) (tC (V.int 977))) tNil)) (tC (V.int 2147483629))) (tCons (tVar 1) (tCons (tC (V.int 0)) tNil))))
        { nx := fun _ H' => Q .non H', rt := Q } [some (.int c), some (.int g)] H := fun g => by
      refine ⟨_, rfl, c, 48271, rfl, rfl, .inr ⟨by decide, by decide⟩, _, _, rfl, rfl, .inl ⟨_, rfl, _, _, rfl, rfl, (by show (0 : Int) < 2147483629; decide), _, rfl, (by show 3 ≤ sizeLine; decide), fun p hp => ?_⟩⟩
      have hp' : H p = none := hp
      exact q p _ hp' (fun b o e => by rw [upd_ne (ne_of_none e hp')]; exact e) ⟨_, _, _, upd_same⟩
    refine ⟨_, rfl, c, rfl, 10, 18, rfl, rfl, ⟨by decide, by decide, by decide⟩, _, _, rfl, rfl, _, rfl, ?_⟩
    refine ite2 (fun _ => ?_) (fun _ => ?_)
    · exact ⟨_, rfl, c, rfl, tail _⟩
    · exact tail 0

theorem scDraw : FnScope ["_law_source_here", "_law_many", "_law_first", "_law_turned", "_law_digit"] ["_law_source_here", "_law_many"] (defScope sDraw) := ⟨rfl, rfl, rfl, by decide +kernel, rfl, by decide +kernel, by decide +kernel⟩
def spDraw : Sp := fun vs H Q _ => ∃ (a : Addr) (m : Int), vs = [.ref a, .int m] ∧ 0 < m ∧ m ≤ 100000000000000000000 ∧ SrcAt H a ∧ ∀ d H', 0 ≤ d → d < m → SrcAt H' a → But a H H' → Q (.int d) H'
theorem log_of {m : Int} (h0 : 0 < m) (h : m ≤ 100000000000000000000) : m.natAbs.log2 < 9000 := by
  have e : m.natAbs < 2 ^ 70 := by omega
  exact Nat.lt_of_lt_of_le (PySem.Flt.log2_lt_of (by decide) e) (by decide)
theorem ok_draw {f : Addr} {fd : FuncData} (F : Fun K "_law_draw" "_law_draw" sDraw f fd) (T : Blt mg) : FnOk P w K mg base CX0 1 f fd ["_law_source_here", "_law_many"] spDraw := by
  refine F.ok scDraw (fun vs H Q E h => ?_) (fun cdv A outer s H vs Q E hr h => ?_)
  · obtain ⟨a, m, rfl, _⟩ := h
    rfl
  · obtain ⟨a, m, rfl, h0, h1, ⟨x, y, z, hs⟩, q⟩ := h
    have hL := log_of h0 h1
    have pt : m.natAbs.log2 < 9000 := hL
    refine ⟨_, pss_cons (ps_asg (pe_op op_add (pe_ix ix_list (pv 0) pe_int (fun _ _ => rfl)) pe_int) (pg_sub (pv 0) pe_int set_list))
      (pss_cons (ps_set (i := 2) scDraw.nd rfl (.inl rfl) (pe_callTy call_int1 (by rfl) T.int (by decide +kernel) (pa_cons (pe_ix ix_list (pv 0) pe_int (fun _ _ => rfl)) pa_nil)))
      (pss_cons (ps_set (i := 3) scDraw.nd rfl (.inl rfl) (pe_callTy call_int1 (by rfl) T.int (by decide +kernel) (pa_cons (pe_op op_add (pe_op op_add (pe_op op_mul (pv 2) (pe_op op_add (pe_op op_mod (pe_callTy call_int1 (by rfl) T.int (by decide +kernel) (pa_cons (pv 2) pa_nil)) pe_int) pe_int)) (pe_op op_mul pe_int (pe_ix ix_list (pv 0) pe_int (fun _ _ => rfl)))) pe_int) pa_nil)))
      (pss_cons (ps_asg (pe_op op_mod (pe_callTy call_int1 (by rfl) T.int (by decide +kernel) (pa_cons (pv 3) pa_nil)) pe_int) (pg_sub (pv 0) pe_int set_list))
      (pss_cons (ps_if (pt_cmpR op_gt (pe_ix ix_list (pv 0) pe_int (fun _ _ => rfl)) pe_int (nomark _))
        (pss_cons (ps_asg (pe_callB call_divmodW (by rfl) T.dvm (by decide +kernel) (pa_cons (pe_ix ix_list (pv 0) pe_int (fun _ _ => rfl)) (pa_cons (pv 1) pa_nil))) (pg_tup rfl (pgs_cons (pg_sub (pv 0) pe_int set_list) (pgs_cons (pg_name (i := 4) scDraw.nd rfl (.inl rfl)) pgs_nil))))
          (pss_one (ps_ret (pv 4)))) pss_nil)
      (pss_one (ps_ret (pe_op op_mod (pe_callTy call_int1 (by rfl) T.int (by decide +kernel) (pa_cons (pe_op op_fdiv (pe_ix ix_list (pv 0) pe_int (fun _ _ => rfl)) pe_int) pa_nil)) (pv 1)))))))), ?_⟩
    refine ⟨_, rfl, a, _, 2, .int z, rfl, rfl, SqL.of hs, (by rfl), z, 1, rfl, rfl, _, rfl, a, _, 2, 2, rfl, rfl, hs, (by rfl), ?_⟩
    refine ⟨_, rfl, a, [.int x, .int y, .int (z + 1)], 0, .int x, rfl, rfl, SqL.of upd_same, (by rfl), .inl ⟨x, rfl, ?_⟩⟩
    have b1 : 0 ≤ x % 30011 := Int.emod_nonneg _ (by decide)
    have b2 : x % 30011 < 30011 := Int.emod_lt_of_pos _ (by decide)
    refine ⟨_, rfl, _, rfl, .inl ⟨x, rfl, x, 30011, rfl, rfl, (by show (0 : Int) < 30011; decide), _, _, rfl, rfl, x, _, rfl, rfl, .inr ⟨by omega, by omega⟩, _, rfl, a, [.int x, .int y, .int (z + 1)], 2, .int (z + 1), rfl, rfl, SqL.of upd_same, (by rfl), 65539, _, rfl, rfl, .inl ⟨by decide, by decide⟩, _, _, rfl, rfl, _, _, rfl, rfl, .inl ⟨_, rfl, ?_⟩⟩⟩
    refine ⟨_, rfl, .inl ⟨_, rfl, _, _, rfl, rfl, (by show (0 : Int) < 2147483629; decide), _, rfl, a, [.int x, .int y, .int (z + 1)], 0, 0, rfl, rfl, upd_same, (by rfl), ?_⟩⟩
    refine ⟨_, rfl, a, [.int _, .int y, .int (z + 1)], 1, .int y, rfl, rfl, SqL.of upd_same, (by rfl), _, _, rfl, rfl, _, rfl, ?_⟩
    refine ite2 (fun _ => ?_) (fun _ => ?_)
    · refine ⟨_, rfl, a, [.int _, .int y, .int (z + 1)], 1, .int y, rfl, rfl, SqL.of upd_same, (by rfl), _, rfl, y, m, rfl, ⟨h0, PyProof.noPylong_of_log2 hL⟩, fun p hp => ?_⟩
      have nap : a ≠ p := ne_of_none upd_same hp
      refine ⟨p, _, rfl, SqT.of upd_same, rfl, _, _, rfl, _, rfl, a, [.int _, .int y, .int (z + 1)], 1, 1, rfl, rfl, (by rw [upd_ne nap]; exact upd_same), (by rfl), _, _, rfl, rfl, ?_⟩
      refine ⟨_, rfl, q _ _ (Int.emod_nonneg _ (by omega)) (Int.emod_lt_of_pos _ h0) ⟨_, _, _, upd_same⟩ ?_⟩
      exact (((But.upd (a := a)).trans But.upd).new hp).trans But.upd
    · refine ⟨_, rfl, a, [.int _, .int y, .int (z + 1)], 0, .int _, rfl, rfl, SqL.of upd_same, (by rfl), _, _, rfl, rfl, ⟨by decide, by decide⟩, .inl ⟨_, rfl, _, rfl, _, _, rfl, rfl, h0, ?_⟩⟩
      exact q _ _ (Int.emod_nonneg _ (by omega)) (Int.emod_lt_of_pos _ h0) ⟨_, _, _, upd_same⟩ ((But.upd (a := a)).trans But.upd)
end
end T02

namespace T02
open PySem L2 SF
section
variable {P : Program} {w : World} {K : PySem.W.Frag} {mg : Str → Option Value} {base : Heap}
/-! ### the greatest common divisor, lowest terms -/
def gI (u l : Int) : Int := ((Nat.gcd u.natAbs l.natAbs : Nat) : Int)
def sg (u l : Int) : Int := if l < 0 then -gI u l else gI u l
def nt (u l : Int) : Int := u.fdiv (sg u l)
def nb (u l : Int) : Int := l.fdiv (sg u l)
theorem gI_pos {u l : Int} (h : l ≠ 0) : 0 < gI u l := by
  unfold gI
  have : 0 < Nat.gcd u.natAbs l.natAbs := Nat.gcd_pos_of_pos_right _ (Int.natAbs_pos.mpr h)
  omega
theorem gI_le {u l : Int} (h : l ≠ 0) : gI u l ≤ (l.natAbs : Int) := by
  unfold gI
  have := Nat.gcd_le_right u.natAbs (Int.natAbs_pos.mpr h)
  omega
theorem sg_natAbs {u l : Int} : (sg u l).natAbs = Nat.gcd u.natAbs l.natAbs := by
  unfold sg gI
  split <;> omega
theorem sg_ok {u l : Int} (h : l ≠ 0) (hb : l.natAbs < 2 ^ 200) : CDivZ u (sg u l) := by
  have e := sg_natAbs (u := u) (l := l)
  have h1 := Nat.gcd_le_right u.natAbs (Int.natAbs_pos.mpr h)
  have h2 : 0 < Nat.gcd u.natAbs l.natAbs := Nat.gcd_pos_of_pos_right _ (Int.natAbs_pos.mpr h)
  refine ⟨by omega, ?_⟩
  exact Nat.lt_of_lt_of_le (PySem.Flt.log2_lt_of (k := 200) (by decide) (by omega)) (by decide)

theorem scCommon : FnScope ["_law_one", "_law_two", "_law_high", "_law_low"] ["_law_one", "_law_two"] (defScope sCommon) := ⟨rfl, rfl, rfl, by decide +kernel, rfl, by decide +kernel, by decide +kernel⟩
def spCommon : Sp := fun vs H Q _ => ∃ x y : Int, vs = [.int x, .int y] ∧ Q (.int (gI x y)) H
def muCommon : L2.St → Hp → Nat := fun σ _ => match σ with
  | [_, _, _, some (.int l)] => l.toNat
  | _ => 0
theorem abs_is (i : Int) : (if i < 0 then -i else i) = ((i.natAbs : Nat) : Int) := by split <;> omega
theorem ok_common {f : Addr} {fd : FuncData} (F : Fun K "_law_common" "_law_common" sCommon f fd) (T : Blt mg) : FnOk P w K mg base CX0 1 f fd ["_law_one", "_law_two"] spCommon := by
  refine F.ok scCommon (fun vs H Q E h => ?_) (fun cdv A outer s H vs Q E hr h => ?_)
  · obtain ⟨x, y, rfl, _⟩ := h
    rfl
  · obtain ⟨x, y, rfl, q⟩ := h
    refine ⟨_, pss_cons (ps_par (i := 2) (j := 3) (by rfl) scCommon.nd rfl rfl (by decide) rfl rfl (pa_cons (pe_callB call_abs (by rfl) T.abs (by decide +kernel) (pa_cons (pv 0) pa_nil)) (pa_cons (pe_callB call_abs (by rfl) T.abs (by decide +kernel) (pa_cons (pv 1) pa_nil)) pa_nil)) (by rfl))
      (pss_cons (ps_while PassesOwn.never (pt_cmpR op_gt (pv 3) pe_int (nomark _))
        (pss_one (ps_par (i := 2) (j := 3) (by rfl) scCommon.nd rfl rfl (by decide) rfl rfl (pa_cons (pv 3) (pa_cons (pe_op op_mod (pe_callTy call_int1 (by rfl) T.int (by decide +kernel) (pa_cons (pv 2) pa_nil)) (pv 3)) pa_nil)) (by rfl))))
      (pss_one (ps_ret (pv 2)))), ?_⟩
    refine ⟨_, rfl, x, rfl, _, rfl, y, rfl, _, _, rfl, ?_⟩
    refine while_by (fun σ H' => H' = H ∧ ∃ a b : Nat, σ = [some (.int x), some (.int y), some (.int (a : Int)), some (.int (b : Int))] ∧ Nat.gcd a b = Nat.gcd x.natAbs y.natAbs) muCommon ⟨rfl, x.natAbs, y.natAbs, by rw [abs_is, abs_is]; rfl, rfl⟩ ?_ (fun σ H Q Q' hq ⟨v, e, i, j, e1, e2, k, e3, q⟩ => ⟨v, e, i, j, e1, e2, k, e3, hq _ _ q⟩)
    rintro σ H' ⟨rfl, a, b, rfl, e⟩
    refine ⟨_, rfl, _, _, rfl, rfl, _, rfl, ?_⟩
    refine ite2 (fun hc => ?_) (fun hc => ?_)
    · have hb : (0 : Int) < (b : Int) := of_decide_eq_true hc
      refine ⟨_, rfl, _, rfl, .inl ⟨_, rfl, _, rfl, _, _, rfl, rfl, hb, _, _, rfl, ?_⟩⟩
      refine ⟨⟨rfl, b, a % b, by show [_, _, some (V.int (b : Int)), some (V.int ((a : Int) % (b : Int)))] = _; rw [Int.natCast_emod], ?_⟩, ?_⟩
      · rw [← e, Nat.gcd_comm a b, Nat.gcd_rec b a, Nat.gcd_comm]
      · show ((a : Int) % (b : Int)).toNat < (b : Int).toNat
        have h1 : (a : Int) % (b : Int) < (b : Int) := Int.emod_lt_of_pos _ hb
        have h2 : 0 ≤ (a : Int) % (b : Int) := Int.emod_nonneg _ (by omega)
        omega
    · have hb : ¬ (0 : Int) < (b : Int) := fun z => hc (decide_eq_true z)
      have hb0 : b = 0 := by omega
      subst hb0
      refine ⟨_, rfl, ?_⟩
      have e2 : a = Nat.gcd x.natAbs y.natAbs := by rw [← e, Nat.gcd_zero_right]
      rw [e2]
      exact q

theorem scLowest : FnScope ["_law_upper", "_law_lower", "_law_by"] ["_law_upper", "_law_lower"] (defScope sLowest) := ⟨rfl, rfl, rfl, by decide +kernel, rfl, by decide +kernel, by decide +kernel⟩
def spLowest : Sp := fun vs H Q _ => ∃ u l : Int, vs = [.int u, .int l] ∧ l ≠ 0 ∧ l.natAbs < 2 ^ 200 ∧ ∀ p, H p = none → Q (.ref p) (upd H p (.tup [.int (nt u l), .int (nb u l)]))
theorem ok_lowest {f fC : Addr} {fd fdC : FuncData} (F : Fun K "_law_lowest" "_law_lowest" sLowest f fd) (FC : Fun K "_law_common" "_law_common" sCommon fC fdC) (bC : Binds K fdC ["_law_one", "_law_two"] []) (gC : mg "_law_common" = some (.ref fC)) (T : Blt mg) :
    FnOk P w K mg base CX0 2 f fd ["_law_upper", "_law_lower"] spLowest := by
  have GC : FnOk P w K mg base CX0 1 fC fdC ["_law_one", "_law_two"] spCommon := ok_common FC T
  refine F.ok scLowest (fun vs H Q E h => ?_) (fun cdv A outer s H vs Q E hr h => ?_)
  · obtain ⟨u, l, rfl, _⟩ := h
    rfl
  · obtain ⟨u, l, rfl, h0, hb, q⟩ := h
    refine ⟨_, pss_cons (ps_set (i := 2) scLowest.nd rfl (.inl rfl) (pe_ifExp (pt_cmpR op_gt (pv 1) pe_int (nomark _)) (pe_call GC hr (by rfl) gC FC.kp bC .nil pass0 (pa_cons (pv 0) (pa_cons (pv 1) pa_nil))) (pe_un un_neg (pe_call GC hr (by rfl) gC FC.kp bC .nil pass0 (pa_cons (pv 0) (pa_cons (pv 1) pa_nil))))))
      (pss_one (ps_ret (pe_tup (pa_cons (pe_op op_fdivZ (pv 0) (pv 2)) (pa_cons (pe_op op_fdivZ (pv 1) (pv 2)) pa_nil))))), ?_⟩
    have tail : tRet (tTup (tCons (tOp (rI CDivZ fun i j => V.int (i.fdiv j)) (tVar 0) (tVar 2)) (tCons (tOp (rI CDivZ fun i j => V.int (i.fdiv j)) (tVar 1) (tVar 2)) tNil))) { nx := fun _ H' => Q .non H', rt := Q } [some (.int u), some (.int l), some (.int (sg u l))] H := by
      have hz := sg_ok (u := u) h0 hb
      exact ⟨_, rfl, _, rfl, u, _, rfl, rfl, hz, _, rfl, _, rfl, l, _, rfl, rfl, hz, (by show 2 ≤ sizeLine; decide), fun p hp => q p hp⟩
    refine ⟨_, rfl, _, _, rfl, rfl, _, rfl, ?_⟩
    refine ite2 (fun hc => ?_) (fun hc => ?_)
    · have hl : 0 < l := of_decide_eq_true hc
      refine ⟨_, rfl, _, rfl, u, l, rfl, ?_⟩
      have e : sg u l = gI u l := if_neg (by omega)
      rw [e] at tail
      exact tail
    · have hl : ¬ 0 < l := fun z => hc (decide_eq_true z)
      refine ⟨_, rfl, _, rfl, u, l, rfl, _, rfl, ?_⟩
      have e : sg u l = -gI u l := if_pos (by omega)
      rw [e] at tail
      exact tail

/-! ### a whole number of up to forty digits -/
theorem scWhole : FnScope ["_law_source_here", "_law_way", "_law_sign", "_law_parts_here"] ["_law_source_here"] (defScope sWhole) := ⟨rfl, rfl, rfl, by decide +kernel, rfl, by decide +kernel, by decide +kernel⟩
def Big : Int := 10000000000000000000000000000000000000000
def spWhole : Sp := fun vs H Q _ => ∃ a : Addr, vs = [.ref a] ∧ SrcAt H a ∧ ∀ n H', -Big < n → n < Big → SrcAt H' a → But a H H' → Q (.int n) H'
theorem ok_whole {f fD : Addr} {fd fdD : FuncData} (F : Fun K "_law_whole" "_law_whole" sWhole f fd) (FD : Fun K "_law_draw" "_law_draw" sDraw fD fdD) (bD : Binds K fdD ["_law_source_here", "_law_many"] []) (gD : mg "_law_draw" = some (.ref fD)) (T : Blt mg) :
    FnOk P w K mg base CX0 2 f fd ["_law_source_here"] spWhole := by
  have GD : FnOk P w K mg base CX0 1 fD fdD ["_law_source_here", "_law_many"] spDraw := ok_draw FD T
  refine F.ok scWhole (fun vs H Q E h => ?_) (fun cdv A outer s H vs Q E hr h => ?_)
  · obtain ⟨a, rfl, _⟩ := h
    rfl
  · obtain ⟨a, rfl, hs, q⟩ := h
    refine ⟨_, (pss_cons (ps_set (i := 1) scWhole.nd rfl (.inl rfl) (pe_call GD hr (by rfl) gD FD.kp bD .nil pass0 (pa_cons (pv 0) (pa_cons pe_int pa_nil))))
      (pss_cons (ps_if (pt_cmpR op_lt (pv 1) pe_int (nomark _)) (pss_one (ps_ret (pe_op op_sub (pe_call GD hr (by rfl) gD FD.kp bD .nil pass0 (pa_cons (pv 0) (pa_cons pe_int pa_nil))) pe_int))) pss_nil)
      (pss_cons (ps_if (pt_cmpR op_lt (pv 1) pe_int (nomark _)) (pss_one (ps_ret (pe_op op_sub (pe_call GD hr (by rfl) gD FD.kp bD .nil pass0 (pa_cons (pv 0) (pa_cons pe_int pa_nil))) pe_int))) pss_nil)
      (pss_cons (ps_set (i := 2) scWhole.nd rfl (.inl rfl) (pe_op op_sub pe_int (pe_op op_mul pe_int (pe_call GD hr (by rfl) gD FD.kp bD .nil pass0 (pa_cons (pv 0) (pa_cons pe_int pa_nil))))))
      (pss_cons (ps_if (pt_cmpR op_eq (pv 1) pe_int (nomark _)) (pss_one (ps_ret (pe_op op_mul (pv 2) (pe_op op_add (pe_ix ix_list (pe_lst (pa_cons (pe_op op_pow pe_int pe_int) (pa_cons (pe_op op_pow pe_int pe_int) (pa_cons (pe_op op_pow pe_int pe_int) (pa_cons (pe_op op_pow pe_int pe_int) pa_nil))))) (pe_call GD hr (by rfl) gD FD.kp bD .nil pass0 (pa_cons (pv 0) (pa_cons pe_int pa_nil))) (fun _ _ => rfl)) (pe_call GD hr (by rfl) gD FD.kp bD .nil pass0 (pa_cons (pv 0) (pa_cons pe_int pa_nil))))))) pss_nil)
      (pss_cons (ps_if (pt_cmpR op_eq (pv 1) pe_int (nomark _)) (pss_one (ps_ret (pe_op op_mul (pv 2) (pe_op op_sub (pe_op op_sub (pe_op op_pow pe_int pe_int) pe_int) (pe_call GD hr (by rfl) gD FD.kp bD .nil pass0 (pa_cons (pv 0) (pa_cons pe_int pa_nil))))))) pss_nil)
      (pss_cons (ps_set (i := 3) scWhole.nd rfl (.inl rfl) (pe_lst (pa_cons (pe_call GD hr (by rfl) gD FD.kp bD .nil pass0 (pa_cons (pv 0) (pa_cons (pe_op op_pow pe_int pe_int) pa_nil))) (pa_cons (pe_call GD hr (by rfl) gD FD.kp bD .nil pass0 (pa_cons (pv 0) (pa_cons (pe_op op_pow pe_int pe_int) pa_nil))) (pa_cons (pe_call GD hr (by rfl) gD FD.kp bD .nil pass0 (pa_cons (pv 0) (pa_cons (pe_op op_pow pe_int pe_int) pa_nil))) pa_nil)))))
      (pss_one (ps_ret (pe_op op_mul (pv 2) (pe_op op_add (pe_op op_add (pe_op op_mul (pe_ix ix_list (pv 3) pe_int (fun _ _ => rfl)) (pe_op op_pow pe_int pe_int)) (pe_op op_mul (pe_ix ix_list (pv 3) pe_int (fun _ _ => rfl)) (pe_op op_pow pe_int pe_int))) (pe_ix ix_list (pv 3) pe_int (fun _ _ => rfl))))))))))))), ?_⟩
    have D9 : (9 : Int) ≤ 100000000000000000000 := by decide
    refine ⟨_, rfl, a, 9, rfl, (by decide), (by decide), hs, fun d H1 d0 d1 s1 k1 => ?_⟩
    refine ⟨_, rfl, _, _, rfl, rfl, _, rfl, ?_⟩
    refine ite2 (fun _ => ?_) (fun _ => ?_)
    · refine ⟨_, rfl, a, 25, rfl, (by decide), (by decide), s1, fun e H2 e0 e1 s2 k2 => ⟨_, _, rfl, rfl, q _ _ (by unfold Big; omega) (by unfold Big; omega) s2 (k1.trans k2)⟩⟩
    refine ⟨_, rfl, _, _, rfl, rfl, _, rfl, ?_⟩
    refine ite2 (fun _ => ?_) (fun _ => ?_)
    · refine ⟨_, rfl, a, 2001, rfl, (by decide), (by decide), s1, fun e H2 e0 e1 s2 k2 => ⟨_, _, rfl, rfl, q _ _ (by unfold Big; omega) (by unfold Big; omega) s2 (k1.trans k2)⟩⟩
    refine ⟨_, rfl, a, 2, rfl, (by decide), (by decide), s1, fun e H2 e0 e1 s2 k2 => ⟨2, e, rfl, rfl, .inl ⟨by decide, by decide⟩, 1, _, rfl, rfl, ?_⟩⟩
    have he : e = 0 ∨ e = 1 := by omega
    refine ⟨_, rfl, rfl, _, rfl, ?_⟩
    refine ite2 (fun _ => ?_) (fun _ => ?_)
    · refine ⟨_, rfl, 10, 6, rfl, rfl, ⟨by decide, by decide, by decide⟩, 10, 12, rfl, rfl, ⟨by decide, by decide, by decide⟩, 10, 20, rfl, rfl, ⟨by decide, by decide, by decide⟩, 10, 39, rfl, rfl, ⟨by decide, by decide, by decide⟩, (by show 4 ≤ sizeLine; decide), fun l hl => ?_⟩
      have s3 : SrcAt (upd H2 l (.lst [.int (10 ^ 6), .int (10 ^ 12), .int (10 ^ 20), .int (10 ^ 39)])) a := by
        obtain ⟨x, y, z, es⟩ := s2
        exact ⟨x, y, z, by rw [upd_ne (ne_of_none es hl)]; exact es⟩
      have nla : l ≠ a := (s2.ne hl).symm
      refine ⟨_, rfl, a, 4, rfl, (by decide), (by decide), s3, fun d2 H3 f0 f1 s4 k4 => ?_⟩
      have hl3 := k4 l _ nla upd_same
      obtain ⟨v, hv, v0, v1⟩ : ∃ v : Int, atI [V.int (10 ^ 6), V.int (10 ^ 12), V.int (10 ^ 20), V.int (10 ^ 39)] d2 = some (.int v) ∧ 0 ≤ v ∧ v ≤ 10 ^ 39 := by
        have : d2 = 0 ∨ d2 = 1 ∨ d2 = 2 ∨ d2 = 3 := by omega
        rcases this with rfl | rfl | rfl | rfl
        · exact ⟨_, rfl, by decide, by decide⟩
        · exact ⟨_, rfl, by decide, by decide⟩
        · exact ⟨_, rfl, by decide, by decide⟩
        · exact ⟨_, rfl, by decide, by decide⟩
      refine ⟨l, _, d2, _, rfl, rfl, SqL.of hl3, hv, _, rfl, a, 1000, rfl, (by decide), (by decide), s4, fun d3 H4 g0 g1 s5 k5 => ⟨_, _, rfl, rfl, _, _, rfl, rfl, .inl ⟨by omega, by omega⟩, ?_⟩⟩
      refine q _ _ ?_ ?_ s5 (((k1.trans k2).new hl).trans (k4.trans k5))
      · unfold Big
        rcases he with rfl | rfl <;> omega
      · unfold Big
        rcases he with rfl | rfl <;> omega
    refine ⟨_, rfl, rfl, _, rfl, ?_⟩
    refine ite2 (fun _ => ?_) (fun _ => ?_)
    · refine ⟨_, rfl, 10, 40, rfl, rfl, ⟨by decide, by decide, by decide⟩, _, _, rfl, rfl, _, rfl, a, 1000, rfl, (by decide), (by decide), s2, fun d3 H4 g0 g1 s5 k5 => ⟨_, _, rfl, rfl, _, _, rfl, rfl, .inl ⟨by omega, by omega⟩, ?_⟩⟩
      have e40 : (10 : Int) ^ (40 : Int).toNat = 10000000000000000000000000000000000000000 := by decide
      refine q _ _ ?_ ?_ s5 ((k1.trans k2).trans k5)
      · show -Big < (1 - 2 * e) * ((10 : Int) ^ (40 : Int).toNat - 7 - d3)
        rw [e40]
        unfold Big
        rcases he with rfl | rfl <;> omega
      · show (1 - 2 * e) * ((10 : Int) ^ (40 : Int).toNat - 7 - d3) < Big
        rw [e40]
        unfold Big
        rcases he with rfl | rfl <;> omega
    have e9 : (10 : Int) ^ (9 : Int).toNat = 1000000000 := by decide
    have e30 : (10 : Int) ^ (30 : Int).toNat = 1000000000000000000000000000000 := by decide
    have e15 : (10 : Int) ^ (15 : Int).toNat = 1000000000000000 := by decide
    refine ⟨_, rfl, 10, 9, rfl, rfl, ⟨by decide, by decide, by decide⟩, a, _, rfl, (by decide), (by decide), s2, fun x H4 x0 x1 s4 k4 => ?_⟩
    refine ⟨_, rfl, 10, 9, rfl, rfl, ⟨by decide, by decide, by decide⟩, a, _, rfl, (by decide), (by decide), s4, fun y H5 y0 y1 s5 k5 => ?_⟩
    refine ⟨_, rfl, 10, 9, rfl, rfl, ⟨by decide, by decide, by decide⟩, a, _, rfl, (by decide), (by decide), s5, fun z H6 z0 z1 s6 k6 => ⟨(by show 3 ≤ sizeLine; decide), fun l hl => ?_⟩⟩
    rw [e9] at x1 y1 z1
    refine ⟨_, rfl, _, rfl, l, [.int x, .int y, .int z], 0, .int x, rfl, rfl, SqL.of upd_same, (by rfl), 10, 30, rfl, rfl, ⟨by decide, by decide, by decide⟩, _, _, rfl, rfl, .inl ⟨by omega, by omega⟩,
      _, rfl, l, [.int x, .int y, .int z], 1, .int y, rfl, rfl, SqL.of upd_same, (by rfl), 10, 15, rfl, rfl, ⟨by decide, by decide, by decide⟩, _, _, rfl, rfl, .inl ⟨by omega, by omega⟩, _, _, rfl, rfl,
      _, rfl, l, [.int x, .int y, .int z], 2, .int z, rfl, rfl, SqL.of upd_same, (by rfl), _, _, rfl, rfl, _, _, rfl, rfl, .inl ⟨by omega, by omega⟩, ?_⟩
    refine q _ _ ?_ ?_ ?_ (((((k1.trans k2).trans k4).trans k5).trans k6).new hl)
    · show -Big < (1 - 2 * e) * (x * (10 : Int) ^ (30 : Int).toNat + y * (10 : Int) ^ (15 : Int).toNat + z)
      rw [e30, e15]
      unfold Big
      rcases he with rfl | rfl <;> omega
    · show (1 - 2 * e) * (x * (10 : Int) ^ (30 : Int).toNat + y * (10 : Int) ^ (15 : Int).toNat + z) < Big
      rw [e30, e15]
      unfold Big
      rcases he with rfl | rfl <;> omega
    · obtain ⟨u1, u2, u3, es⟩ := s6
      exact ⟨u1, u2, u3, by rw [upd_ne (ne_of_none es hl)]; exact es⟩
end
end T02

namespace T02
open PySem L2 SF
section
variable {P : Program} {w : World} {K : PySem.W.Frag} {mg : Str → Option Value} {base : Heap}
theorem mul_bd {x y A B : Int} (x0 : -A ≤ x) (x1 : x ≤ A) (y0 : -B ≤ y) (y1 : y ≤ B) : -(A * B) ≤ x * y ∧ x * y ≤ A * B := by
  have hA : 0 ≤ A := by omega
  have hB : 0 ≤ B := by omega
  have h : (x * y).natAbs ≤ A.natAbs * B.natAbs := by
    rw [Int.natAbs_mul]
    exact Nat.mul_le_mul (by omega) (by omega)
  have e : ((A.natAbs * B.natAbs : Nat) : Int) = A * B := by
    rw [Int.natCast_mul, Int.natAbs_of_nonneg hA, Int.natAbs_of_nonneg hB]
  omega
theorem scParts : FnScope ["_law_source_here","_law_way","_law_shared","_law_lower","_law_sign"] ["_law_source_here"] (defScope sParts) := ⟨rfl, rfl, rfl, by decide +kernel, rfl, by decide +kernel, by decide +kernel⟩
def spParts : Sp := fun vs H Q _ => ∃ a : Addr, vs = [.ref a] ∧ SrcAt H a ∧ ∀ u l p H', -Big < u → u < Big → -Big < l → l < Big → l ≠ 0 → H' p = some (.tup [.int u, .int l]) → SrcAt H' a → But a H H' → Q (.ref p) H'
theorem ok_parts {f fD fW : Addr} {fd fdD fdW : FuncData} (F : Fun K "_law_parts" "_law_parts" sParts f fd) (FD : Fun K "_law_draw" "_law_draw" sDraw fD fdD) (bD : Binds K fdD ["_law_source_here", "_law_many"] []) (gD : mg "_law_draw" = some (.ref fD))
    (FW : Fun K "_law_whole" "_law_whole" sWhole fW fdW) (bW : Binds K fdW ["_law_source_here"] []) (gW : mg "_law_whole" = some (.ref fW)) (T : Blt mg) : FnOk P w K mg base CX0 3 f fd ["_law_source_here"] spParts := by
  have GD : FnOk P w K mg base CX0 2 fD fdD ["_law_source_here", "_law_many"] spDraw := (ok_draw FD T).mono (by decide)
  have GW : FnOk P w K mg base CX0 2 fW fdW ["_law_source_here"] spWhole := ok_whole FW FD bD gD T
  refine F.ok scParts (fun vs H Q E h => ?_) (fun cdv A outer s H vs Q E hr h => ?_)
  · obtain ⟨a, rfl, _⟩ := h
    rfl
  · obtain ⟨a, rfl, hs, q⟩ := h
    refine ⟨_, (pss_cons (ps_set (i := 1) scParts.nd rfl (.inl rfl) (pe_call GD hr (by rfl) gD FD.kp bD .nil pass0 (pa_cons (pv 0) (pa_cons pe_int pa_nil))))
      (pss_cons (ps_if (pt_cmpR op_eq (pv 1) pe_int (nomark _)) (pss_cons (ps_set (i := 2) scParts.nd rfl (.inl rfl) (pe_op op_add pe_int (pe_call GD hr (by rfl) gD FD.kp bD .nil pass0 (pa_cons (pv 0) (pa_cons (pe_op op_pow pe_int pe_int) pa_nil)))))
      (pss_cons (ps_set (i := 3) scParts.nd rfl (.inl rfl) (pe_op op_sub (pe_call GD hr (by rfl) gD FD.kp bD .nil pass0 (pa_cons (pv 0) (pa_cons pe_int pa_nil))) pe_int))
      (pss_one (ps_ret (pe_tup (pa_cons (pe_op op_mul (pe_op op_sub (pe_call GD hr (by rfl) gD FD.kp bD .nil pass0 (pa_cons (pv 0) (pa_cons pe_int pa_nil))) pe_int) (pv 2)) (pa_cons (pe_ifExp (pt_cmpR op_ne (pv 3) pe_int (nomark _)) (pe_op op_mul (pv 3) (pv 2)) (pe_un un_neg (pv 2))) pa_nil))))))) pss_nil)
      (pss_cons (ps_if (pt_cmpR op_eq (pv 1) pe_int (nomark _)) (pss_cons (ps_par (i := 4) (j := 2) (by rfl) scParts.nd rfl rfl (by decide) rfl rfl (pa_cons (pe_op op_sub pe_int (pe_op op_mul pe_int (pe_call GD hr (by rfl) gD FD.kp bD .nil pass0 (pa_cons (pv 0) (pa_cons pe_int pa_nil))))) (pa_cons (pe_op op_add pe_int (pe_call GD hr (by rfl) gD FD.kp bD .nil pass0 (pa_cons (pv 0) (pa_cons (pe_op op_pow pe_int pe_int) pa_nil)))) pa_nil)) (by rfl))
      (pss_one (ps_ret (pe_tup (pa_cons (pe_op op_mul (pe_op op_mul (pv 4) (pv 2)) (pe_op op_sub (pe_call GD hr (by rfl) gD FD.kp bD .nil pass0 (pa_cons (pv 0) (pa_cons pe_int pa_nil))) pe_int)) (pa_cons (pe_op op_mul (pv 4) (pv 2)) pa_nil)))))) pss_nil)
      (pss_cons (ps_set (i := 3) scParts.nd rfl (.inl rfl) (pe_call GW hr (by rfl) gW FW.kp bW .nil pass0 (pa_cons (pv 0) pa_nil)))
      (pss_one (ps_ret (pe_tup (pa_cons (pe_call GW hr (by rfl) gW FW.kp bW .nil pass0 (pa_cons (pv 0) pa_nil)) (pa_cons (pe_ifExp (pt_cmpR op_ne (pv 3) pe_int (nomark _)) (pv 3) pe_int) pa_nil))))))))), ?_⟩
    have fin : ∀ {u l : Int} {H1 : Hp}, -Big < u → u < Big → -Big < l → l < Big → l ≠ 0 → SrcAt H1 a → But a H H1 → 2 ≤ sizeLine ∧ ∀ p, H1 p = none → Q (.ref p) (upd H1 p (.tup [.int u, .int l])) := fun {u l H1} a1 a2 a3 a4 a5 s1 k1 => by
      refine ⟨by decide, fun p hp => q u l p _ a1 a2 a3 a4 a5 upd_same ?_ (k1.new hp)⟩
      obtain ⟨x, y, z, e⟩ := s1
      exact ⟨x, y, z, by rw [upd_ne (ne_of_none e hp)]; exact e⟩
    have e12 : (10 : Int) ^ (12 : Int).toNat = 1000000000000 := by decide
    have e18 : (10 : Int) ^ (18 : Int).toNat = 1000000000000000000 := by decide
    have eB : Big = 10000000000000000000000000000000000000000 := rfl
    refine ⟨_, rfl, a, 4, rfl, (by decide), (by decide), hs, fun d H1 d0 d1 s1 k1 => ?_⟩
    refine ⟨_, rfl, rfl, _, rfl, ?_⟩
    refine ite2 (fun _ => ?_) (fun _ => ?_)
    · refine ⟨_, rfl, 10, 12, rfl, rfl, ⟨by decide, by decide, by decide⟩, a, _, rfl, (by decide), (by decide), s1, fun e H2 e0 e1 s2 k2 => ⟨_, _, rfl, rfl, ?_⟩⟩
      rw [e12] at e1
      refine ⟨_, rfl, a, 2001, rfl, (by decide), (by decide), s2, fun g H3 g0 g1 s3 k3 => ⟨_, _, rfl, rfl, ?_⟩⟩
      refine ⟨_, rfl, a, 2001, rfl, (by decide), (by decide), s3, fun h H4 h0 h1 s4 k4 => ⟨_, _, rfl, rfl, _, rfl, _, _, rfl, rfl, .inl ⟨by omega, by omega⟩, ?_⟩⟩
      have m1 := mul_bd (x := h - 1000) (y := 1 + e) (A := 1000) (B := 1000000000001) (by omega) (by omega) (by omega) (by omega)
      have m2 := mul_bd (x := g - 1000) (y := 1 + e) (A := 1000) (B := 1000000000001) (by omega) (by omega) (by omega) (by omega)
      have kk := (((k1.trans k2).trans k3).trans k4)
      refine ⟨_, rfl, rfl, _, rfl, ?_⟩
      refine ite2 (fun hc => ?_) (fun hc => ?_)
      · refine ⟨_, rfl, _, rfl, _, _, rfl, rfl, .inl ⟨by omega, by omega⟩, ?_⟩
        have hn : g - 1000 ≠ 0 := fun z => by
          have hc' : (!decide (V.int (g - 1000) = V.int 0)) = true := hc
          rw [z] at hc'
          exact absurd hc' (by decide)
        exact fin (by omega) (by omega) (by omega) (by omega) (Int.mul_ne_zero hn (by omega)) s4 kk
      · refine ⟨_, rfl, _, rfl, ?_⟩
        exact fin (by omega) (by omega) (by omega) (by omega) (by omega) s4 kk
    refine ⟨_, rfl, rfl, _, rfl, ?_⟩
    refine ite2 (fun _ => ?_) (fun _ => ?_)
    · refine ⟨_, rfl, a, 2, rfl, (by decide), (by decide), s1, fun e H2 e0 e1 s2 k2 => ⟨2, e, rfl, rfl, .inl ⟨by decide, by decide⟩, 1, _, rfl, rfl, ?_⟩⟩
      refine ⟨_, rfl, 10, 18, rfl, rfl, ⟨by decide, by decide, by decide⟩, a, _, rfl, (by decide), (by decide), s2, fun g H3 g0 g1 s3 k3 => ⟨_, _, rfl, rfl, _, _, rfl, ?_⟩⟩
      rw [e18] at g1
      have m1 := mul_bd (x := 1 - 2 * e) (y := 1 + g) (A := 1) (B := 1000000000000000001) (by omega) (by omega) (by omega) (by omega)
      refine ⟨_, rfl, _, rfl, _, _, rfl, rfl, .inl ⟨by omega, by omega⟩, _, rfl, a, 13, rfl, (by decide), (by decide), s3, fun h H4 h0 h1 s4 k4 => ⟨_, _, rfl, rfl, _, _, rfl, rfl, .inl ⟨by omega, by omega⟩, ?_⟩⟩
      have m2 := mul_bd (x := (1 - 2 * e) * (1 + g)) (y := h - 6) (A := 1000000000000000001) (B := 6) (by omega) (by omega) (by omega) (by omega)
      refine ⟨_, rfl, _, rfl, _, _, rfl, rfl, .inl ⟨by omega, by omega⟩, ?_⟩
      exact fin (by omega) (by omega) (by omega) (by omega) (Int.mul_ne_zero (by omega) (by omega)) s4 (((k1.trans k2).trans k3).trans k4)
    refine ⟨_, rfl, a, rfl, s1, fun n H2 n0 n1 s2 k2 => ?_⟩
    refine ⟨_, rfl, a, rfl, s2, fun m H3 m0 m1 s3 k3 => ?_⟩
    refine ⟨_, rfl, rfl, _, rfl, ?_⟩
    refine ite2 (fun hc => ?_) (fun hc => ?_)
    · refine ⟨_, rfl, ?_⟩
      have hn : n ≠ 0 := fun z => by
        rw [z] at hc
        exact absurd hc (by decide)
      exact fin m0 m1 n0 n1 hn s3 ((k1.trans k2).trans k3)
    · exact fin m0 m1 (by decide) (by decide) (by decide) s3 ((k1.trans k2).trans k3)
end
end T02

namespace T02
open PySem L2 SF
abbrev sIsW : Stmt := top 11
abbrev sInit : Stmt := inClass (top 13) 0
abbrev sTop : Stmt := inClass (top 13) 2
abbrev sBot : Stmt := inClass (top 13) 3
abbrev sBool : Stmt := inClass (top 13) 17
abbrev sEq : Stmt := inClass (top 13) 18
abbrev sStr : Stmt := inClass (top 13) 19
abbrev sRepr : Stmt := inClass (top 13) 20
def kinds : List String := ["int", "bool", "str", "NoneType", "list", "tuple", "dict"]
structure RC (K : PySem.W.Frag) (mg : Str → Option Value) (C : Addr) : Prop where
  cl : Cls K C
  nT : NoAttr K C "_top"
  nB : NoAttr K C "_bottom"
  mgC : mg "Ratio" = some (.ref C)
  isi : mg "isinstance" = none
  int_ : mg "int" = none
  bool_ : mg "bool" = none
  str_ : mg "str" = none
  gcd : mg "gcd" = some (.builtin "math.gcd")
  kB : ∀ T ∈ kinds, PySem.W.kitOne K (.type T) (.ref C) = some false
  kC : PySem.W.kitOne K (.ref C) (.ref C) = some true
  ca : PySem.W.findIn K (.ref C) "__class__" = some (some (.builtin "object.__class__"))
  cn : PySem.W.specialIn K (.builtin "object.__class__") "__get__" = some (some (.builtin "getset_descriptor.__get__"))
  ct : PySem.W.takesIn K (.builtin "object.__class__") = some true
  cm : PySem.W.mroIn K C (.type "object") = some true
section
variable {P : Program} {w : World} {K : PySem.W.Frag} {mg : Str → Option Value} {base : Heap}
def isI : V → Bool
  | .int _ => true
  | _ => false
theorem scIsW : FnScope ["value"] ["value"] (defScope sIsW) := ⟨rfl, rfl, rfl, by decide +kernel, rfl, by decide +kernel, by decide +kernel⟩
def spIsW : Sp := fun vs H Q _ => ∃ v T, vs = [v] ∧ Dec H v T ∧ Q (.bl (isI v)) H
theorem ok_isW {C f : Addr} {fd : FuncData} (F : Fun K "is_whole" "is_whole" sIsW f fd) (T : RC K mg C) : FnOk P w K mg base CX0 1 f fd ["value"] spIsW := by
  refine F.ok scIsW (fun vs H Q E h => ?_) (fun cdv A outer s H vs Q E hr h => ?_)
  · obtain ⟨v, t, rfl, _⟩ := h
    rfl
  · obtain ⟨v, t, rfl, d, q⟩ := h
    refine ⟨_, (pss_one (ps_ret (pe_and (pe_callB call_isi (by rfl) T.isi (by decide +kernel) (pa_cons (pv 0) (pa_cons (pe_bltn (v := .ty "int") (u := .type "int") (by rfl) T.int_ (by decide +kernel) rfl) pa_nil))) (pe_one (pe_not (pe_callB call_isi (by rfl) T.isi (by decide +kernel) (pa_cons (pv 0) (pa_cons (pe_bltn (v := .ty "bool") (u := .type "bool") (by rfl) T.bool_ (by decide +kernel) rfl) pa_nil)))))))), ?_⟩
    have d' := d
    cases d with
    | non => exact ⟨_, rfl, _, _, _, _, false, rfl, .ty _, d'.typ, kit_ty (by decide +kernel), false, rfl, iteF q⟩
    | bl b => exact ⟨_, rfl, _, _, _, _, true, rfl, .ty _, d'.typ, kit_ty (by decide +kernel), true, rfl, iteT ⟨_, rfl, _, _, _, _, true, rfl, .ty _, d'.typ, kit_ty (by decide +kernel), true, rfl, q⟩⟩
    | int i => exact ⟨_, rfl, _, _, _, _, true, rfl, .ty _, d'.typ, kit_ty (by decide +kernel), true, rfl, iteT ⟨_, rfl, _, _, _, _, false, rfl, .ty _, d'.typ, kit_ty (by decide +kernel), false, rfl, q⟩⟩
    | str x => exact ⟨_, rfl, _, _, _, _, false, rfl, .ty _, d'.typ, kit_ty (by decide +kernel), false, rfl, iteF q⟩
    | lst e => exact ⟨_, rfl, _, _, _, _, false, rfl, .ty _, d'.typ, kit_ty (by decide +kernel), false, rfl, iteF q⟩
    | tup e => exact ⟨_, rfl, _, _, _, _, false, rfl, .ty _, d'.typ, kit_ty (by decide +kernel), false, rfl, iteF q⟩
    | dK e => exact ⟨_, rfl, _, _, _, _, false, rfl, .ty _, d'.typ, kit_ty (by decide +kernel), false, rfl, iteF q⟩

/-- the fields of a fraction -/
def rf (t b : Int) : List (Str × V) := putF "_bottom" (.int b) (putF "_top" (.int t) [])
theorem scInit : FnScope ["self", "top", "bottom", "common"] ["self", "top", "bottom"] (defScope sInit) := ⟨rfl, rfl, rfl, by decide +kernel, rfl, by decide +kernel, by decide +kernel⟩
def spInit (C : Addr) : Sp := fun vs H Q _ => ∃ (p dx : Addr) (t b : Int), vs = [.ref p, .int t, .int b] ∧ b ≠ 0 ∧ b.natAbs < 2 ^ 200 ∧ H p = some (.ins C dx []) ∧ Q .non (upd H p (.ins C dx (rf (nt t b) (nb t b))))
theorem ok_init {C f fW : Addr} {fd fdW : FuncData} {dvs : List V} (F : FunD K "__init__" "Ratio.__init__" (defArgs sInit) (defBody sInit) (defScope sInit) dvs [] f fd) (FW : Fun K "is_whole" "is_whole" sIsW fW fdW) (bW : Binds K fdW ["value"] []) (gW : mg "is_whole" = some (.ref fW)) (T : RC K mg C) :
    FnOk P w K mg base CX0 2 f fd ["self", "top", "bottom"] (spInit C) := by
  have GW : FnOk P w K mg base CX0 1 fW fdW ["value"] spIsW := ok_isW FW T
  refine F.ok scInit (fun vs H Q E h => ?_) (fun cdv A outer s H vs Q E hr h => ?_)
  · obtain ⟨p, dx, t, b, rfl, _⟩ := h
    rfl
  · obtain ⟨p, dx, t, b, rfl, h0, hb, hp, q⟩ := h
    refine ⟨_, PSs.nox ((pss_cons (ps_if (pt_not (pt_val (pe_call GW hr (by rfl) gW FW.kp bW .nil pass0 (pa_cons (pv 1) pa_nil)))) (pss_one ps_never) pss_nil)
      (pss_cons (ps_if (pt_not (pt_val (pe_call GW hr (by rfl) gW FW.kp bW .nil pass0 (pa_cons (pv 2) pa_nil)))) (pss_one ps_never) pss_nil)
      (pss_cons (ps_if (pt_cmpR op_eq (pv 2) pe_int (nomark _)) (pss_one ps_never) pss_nil)
      (pss_cons (ps_set (i := 3) scInit.nd rfl (.inl rfl) (pe_callBfun cr_gcd (by rfl) T.gcd (pa_cons (pv 1) (pa_cons (pv 2) pa_nil))))
      (pss_cons (ps_if (pt_cmpR op_lt (pv 2) pe_int (nomark _)) (pss_one (ps_set (i := 3) scInit.nd rfl (.inl rfl) (pe_un un_neg (pv 3)))) pss_nil)
      (pss_cons (ps_fld (pv 0) (pe_op op_fdivZ (pv 1) (pv 3)) rfl)
      (pss_one (ps_fld (pv 0) (pe_op op_fdivZ (pv 2) (pv 3)) rfl))))))))), ?_⟩
    refine ⟨_, rfl, _, _, rfl, .int t, _, rfl, iteF ?_⟩
    refine ⟨_, rfl, _, _, rfl, .int b, _, rfl, iteF ?_⟩
    refine ⟨_, rfl, rfl, _, rfl, ?_⟩
    refine ite2 (fun hc => ?_) (fun _ => ?_)
    · exact (h0 (V.int.inj (of_decide_eq_true hc))).elim
    refine ⟨_, rfl, _, rfl, t, b, rfl, ?_⟩
    have hz := sg_ok (u := t) h0 hb
    have n1 : ¬ (("_bottom" : Str) = "_top") := by decide +kernel
    refine ⟨_, rfl, _, _, rfl, rfl, _, rfl, ?_⟩
    refine ite2 (fun hc => ?_) (fun hc => ?_)
    · have hl : b < 0 := of_decide_eq_true hc
      have e : sg t b = -gI t b := if_pos hl
      refine ⟨_, rfl, _, rfl, ?_⟩
      rw [e] at hz
      refine ⟨_, rfl, _, rfl, t, _, rfl, rfl, hz, _, rfl, p, C, dx, [], rfl, hp, T.cl, T.nT, (by show 0 < 1000; decide), ?_⟩
      refine ⟨_, rfl, _, rfl, b, _, rfl, rfl, hz, _, rfl, p, C, dx, _, rfl, upd_same, T.cl, T.nB, (by show 1 < 1000; decide), ?_⟩
      show Q .non (upd (upd H p _) p _)
      rw [upd_upd]
      unfold nt nb at q
      rw [e] at q
      exact q
    · have hl : ¬ b < 0 := fun z => hc (decide_eq_true z)
      have e : sg t b = gI t b := if_neg hl
      rw [e] at hz
      refine ⟨_, rfl, _, rfl, t, _, rfl, rfl, hz, _, rfl, p, C, dx, [], rfl, hp, T.cl, T.nT, (by show 0 < 1000; decide), ?_⟩
      refine ⟨_, rfl, _, rfl, b, _, rfl, rfl, hz, _, rfl, p, C, dx, _, rfl, upd_same, T.cl, T.nB, (by show 1 < 1000; decide), ?_⟩
      show Q .non (upd (upd H p _) p _)
      rw [upd_upd]
      unfold nt nb at q
      rw [e] at q
      exact q
end
end T02

namespace T02
open PySem L2 SF
section
variable {P : Program} {w : World} {K : PySem.W.Frag} {mg : Str → Option Value} {base : Heap}
theorem n_bt : ¬ (("_bottom" : Str) = "_top") := by decide +kernel
theorem n_tb : ¬ (("_top" : Str) = "_bottom") := by decide +kernel
theorem rf_top (t b : Int) : (rf t b).lookup ("_top" : Str) = some (.int t) := by
  unfold rf
  rw [lookup_putF, if_neg n_tb, lookup_putF, if_pos rfl]
theorem rf_bot (t b : Int) : (rf t b).lookup ("_bottom" : Str) = some (.int b) := by
  unfold rf
  rw [lookup_putF, if_pos rfl]
/-- a fraction stands at a -/
def RatH (C : Addr) (H : Hp) (a : Addr) (t b : Int) : Prop := ∃ dx, H a = some (.ins C dx (rf t b))
def LE (i : Int) : Prop := i.natAbs < 2 ^ 200
theorem LE.log {i : Int} (h : LE i) : i.natAbs.log2 < 1920 := Nat.lt_of_lt_of_le (PySem.Flt.log2_lt_of (k := 200) (by decide) h) (by decide)
/-- a number's text -/
abbrev tx (i : Int) : Str := Str.ofString (toString i)
theorem tx_len {i : Int} (h : LE i) : (tx i).length ≤ 1921 := PyProof.Rows.int_text_len_1921 h.log
def rstr (t b : Int) : Str := if b = 1 then tx t else ((Str.empty ++ tx t) ++ ("/" : Str)) ++ tx b
def rrepr (t b : Int) : Str := ((((Str.empty ++ ("Ratio(" : Str)) ++ tx t) ++ (", " : Str)) ++ tx b) ++ (")" : Str)
theorem line5 : 5000 ≤ sizeLine := by decide

theorem scBool : FnScope ["self"] ["self"] (defScope sBool) := ⟨rfl, rfl, rfl, by decide +kernel, rfl, by decide +kernel, by decide +kernel⟩
def spBool (C : Addr) : Sp := fun vs H Q _ => ∃ a t b, vs = [.ref a] ∧ RatH C H a t b ∧ Q (.bl (t != 0)) H
theorem ok_bool {C f : Addr} {fd : FuncData} (F : Fun K "__bool__" "Ratio.__bool__" sBool f fd) (T : RC K mg C) : FnOk P w K mg base CX0 1 f fd ["self"] (spBool C) := by
  refine F.ok scBool (fun vs H Q E h => ?_) (fun cdv A outer s H vs Q E hr h => ?_)
  · obtain ⟨a, t, b, rfl, _⟩ := h
    rfl
  · obtain ⟨a, t, b, rfl, ⟨dx, hp⟩, q⟩ := h
    refine ⟨_, (pss_one (ps_ret (pe_callTy call_bool1 (by rfl) T.bool_ (by decide +kernel) (pa_cons (pe_fld (pv 0) rfl) pa_nil)))), ?_⟩
    exact ⟨_, rfl, a, C, dx, _, _, rfl, hp, T.cl, T.nT, rf_top t b, .inl ⟨t, rfl, q⟩⟩

theorem scStr : FnScope ["self"] ["self"] (defScope sStr) := ⟨rfl, rfl, rfl, by decide +kernel, rfl, by decide +kernel, by decide +kernel⟩
def spStr (C : Addr) : Sp := fun vs H Q _ => ∃ a t b, vs = [.ref a] ∧ RatH C H a t b ∧ LE t ∧ LE b ∧ Q (.str (rstr t b)) H
theorem ok_str {C f : Addr} {fd : FuncData} (F : Fun K "__str__" "Ratio.__str__" sStr f fd) (T : RC K mg C) : FnOk P w K mg base CX0 1 f fd ["self"] (spStr C) := by
  refine F.ok scStr (fun vs H Q E h => ?_) (fun cdv A outer s H vs Q E hr h => ?_)
  · obtain ⟨a, t, b, rfl, _⟩ := h
    rfl
  · obtain ⟨a, t, b, rfl, ⟨dx, hp⟩, lt, lb, q⟩ := h
    have l5 := line5
    have x1 : (Str.ofString (toString t)).length ≤ 1921 := tx_len lt
    have x2 : (Str.ofString (toString b)).length ≤ 1921 := tx_len lb
    refine ⟨_, (pss_cons (ps_if (pt_cmpR op_eq (pe_fld (pv 0) rfl) pe_int (nomark _)) (pss_one (ps_ret (pe_callTy call_str_int (by rfl) T.str_ (by decide +kernel) (pa_cons (pe_fld (pv 0) rfl) pa_nil)))) pss_nil)
      (pss_one (ps_ret (pe_joined (.cons (pe_fmt (pe_fld (pv 0) rfl)) (.cons pe_str (.cons (pe_fmt (pe_fld (pv 0) rfl)) .nil))))))), ?_⟩
    refine ⟨_, rfl, a, C, dx, _, _, rfl, hp, T.cl, T.nB, rf_bot t b, rfl, _, rfl, ?_⟩
    refine ite2 (fun hc => ?_) (fun hc => ?_)
    · have e : b = 1 := V.int.inj (of_decide_eq_true hc)
      refine ⟨_, rfl, a, C, dx, _, _, rfl, hp, T.cl, T.nT, rf_top t b, t, rfl, lt.log, ?_⟩
      have e2 : rstr t b = tx t := if_pos e
      rw [e2] at q
      exact q
    · have e : ¬ b = 1 := fun z => hc (decide_eq_true (congrArg V.int z))
      have e2 : rstr t b = ((Str.empty ++ tx t) ++ ("/" : Str)) ++ tx b := if_neg e
      rw [e2] at q
      have s1 : ("/" : Str).length = 1 := rfl
      refine ⟨_, rfl, a, C, dx, _, _, rfl, hp, T.cl, T.nT, rf_top t b, .inr ⟨t, rfl, lt.log, _, rfl, ?_, _, rfl, ?_, _, rfl, a, C, dx, _, _, rfl, hp, T.cl, T.nB, rf_bot t b, .inr ⟨b, rfl, lb.log, _, rfl, ?_, q⟩⟩⟩
      · rw [Str.length_append]
        have : Str.empty.length = 0 := rfl
        omega
      · rw [Str.length_append, Str.length_append, s1]
        have : Str.empty.length = 0 := rfl
        omega
      · rw [Str.length_append, Str.length_append, Str.length_append, s1]
        have : Str.empty.length = 0 := rfl
        omega

theorem scRepr : FnScope ["self"] ["self"] (defScope sRepr) := ⟨rfl, rfl, rfl, by decide +kernel, rfl, by decide +kernel, by decide +kernel⟩
def spRepr (C : Addr) : Sp := fun vs H Q _ => ∃ a t b, vs = [.ref a] ∧ RatH C H a t b ∧ LE t ∧ LE b ∧ Q (.str (rrepr t b)) H
theorem ok_repr {C f : Addr} {fd : FuncData} (F : Fun K "__repr__" "Ratio.__repr__" sRepr f fd) (T : RC K mg C) : FnOk P w K mg base CX0 1 f fd ["self"] (spRepr C) := by
  refine F.ok scRepr (fun vs H Q E h => ?_) (fun cdv A outer s H vs Q E hr h => ?_)
  · obtain ⟨a, t, b, rfl, _⟩ := h
    rfl
  · obtain ⟨a, t, b, rfl, ⟨dx, hp⟩, lt, lb, q⟩ := h
    have l5 := line5
    have x1 : (Str.ofString (toString t)).length ≤ 1921 := tx_len lt
    have x2 : (Str.ofString (toString b)).length ≤ 1921 := tx_len lb
    have s0 : Str.empty.length = 0 := rfl
    have s1 : ("Ratio(" : Str).length = 6 := rfl
    have s2 : (", " : Str).length = 2 := rfl
    have s3 : (")" : Str).length = 1 := rfl
    refine ⟨_, (pss_one (ps_ret (pe_joined (.cons pe_str (.cons (pe_fmt (pe_fld (pv 0) rfl)) (.cons pe_str (.cons (pe_fmt (pe_fld (pv 0) rfl)) (.cons pe_str .nil)))))))), ?_⟩
    refine ⟨_, rfl, ?_, _, rfl, a, C, dx, _, _, rfl, hp, T.cl, T.nT, rf_top t b, .inr ⟨t, rfl, lt.log, _, rfl, ?_, _, rfl, ?_, _, rfl, a, C, dx, _, _, rfl, hp, T.cl, T.nB, rf_bot t b, .inr ⟨b, rfl, lb.log, _, rfl, ?_, _, rfl, ?_, q⟩⟩⟩
    · simp only [Str.length_append]; omega
    · simp only [Str.length_append]; omega
    · simp only [Str.length_append]; omega
    · simp only [Str.length_append]; omega
    · simp only [Str.length_append]; omega

/-! ### the properties -/
theorem scTop : FnScope ["self"] ["self"] (defScope sTop) := ⟨rfl, rfl, rfl, by decide +kernel, rfl, by decide +kernel, by decide +kernel⟩
theorem scBot : FnScope ["self"] ["self"] (defScope sBot) := ⟨rfl, rfl, rfl, by decide +kernel, rfl, by decide +kernel, by decide +kernel⟩
theorem ok_top {C f : Addr} {fd : FuncData} (F : Fun K "top" "Ratio.top" sTop f fd) (T : RC K mg C) : FnOk P w K mg base CX0 1 f fd ["self"] (getSp C "_top") := by
  obtain ⟨oc, od, kV, doc, pm, an, cdv, ct, osl, rfl, lk, hcd⟩ := F.ex
  exact fn_getter lk hcd scTop rfl rfl T.cl T.nT
theorem ok_bot {C f : Addr} {fd : FuncData} (F : Fun K "bottom" "Ratio.bottom" sBot f fd) (T : RC K mg C) : FnOk P w K mg base CX0 1 f fd ["self"] (getSp C "_bottom") := by
  obtain ⟨oc, od, kV, doc, pm, an, cdv, ct, osl, rfl, lk, hcd⟩ := F.ex
  exact fn_getter lk hcd scBot rfl rfl T.cl T.nB

theorem scEq : FnScope ["self", "other"] ["self", "other"] (defScope sEq) := ⟨rfl, rfl, rfl, by decide +kernel, rfl, by decide +kernel, by decide +kernel⟩
/-- is the fraction t / b equal to a thing of a built-in kind? -/
def eqO (y : V) (t b : Int) : Bool := match y with
  | .int i => decide (b = 1) && decide (t = i)
  | _ => false
def spEq (C : Addr) : Sp := fun vs H Q _ => ∃ a t b y, vs = [.ref a, y] ∧ RatH C H a t b ∧ ((∃ a' t' b', y = .ref a' ∧ RatH C H a' t' b' ∧ Q (.bl (decide (t = t') && decide (b = b'))) H) ∨ ∃ T, Dec H y T ∧ Q (.bl (eqO y t b)) H)
theorem dint {i j : Int} : decide (V.int i = V.int j) = decide (i = j) := by
  by_cases h : i = j
  · rw [h]; simp
  · rw [decide_eq_false h, decide_eq_false (fun z => h (V.int.inj z))]
theorem ok_eq {C f fW fT fB pT pB : Addr} {fd fdW fdT fdB : FuncData} (F : Fun K "__eq__" "Ratio.__eq__" sEq f fd) (FW : Fun K "is_whole" "is_whole" sIsW fW fdW) (bW : Binds K fdW ["value"] []) (gW : mg "is_whole" = some (.ref fW))
    (FT : Fun K "top" "Ratio.top" sTop fT fdT) (bT : Binds K fdT ["self"] []) (PT : PropOf K C "top" pT fT) (FB : Fun K "bottom" "Ratio.bottom" sBot fB fdB) (bB : Binds K fdB ["self"] []) (PB : PropOf K C "bottom" pB fB) (T : RC K mg C) :
    FnOk P w K mg base CX0 3 f fd ["self", "other"] (spEq C) := by
  have GW : FnOk P w K mg base CX0 2 fW fdW ["value"] spIsW := (ok_isW FW T).mono (by decide)
  have GT : FnOk P w K mg base CX0 1 fT fdT ["self"] (getSp C "_top") := ok_top FT T
  have GB : FnOk P w K mg base CX0 1 fB fdB ["self"] (getSp C "_bottom") := ok_bot FB T
  refine F.ok scEq (fun vs H Q E h => ?_) (fun cdv A outer s H vs Q E hr h => ?_)
  · obtain ⟨a, t, b, y, rfl, _⟩ := h
    rfl
  · obtain ⟨a, t, b, y, rfl, ⟨dx, hp⟩, q⟩ := h
    refine ⟨_, (pss_cons (ps_if (pt_val (pe_callB call_isi (by rfl) T.isi (by decide +kernel) (pa_cons (pv 1) (pa_cons (pe_glob (v := .ref C) (by rfl) T.mgC rfl) pa_nil)))) (pss_one (ps_ret (pe_and (pe_cmpR op_eq (pe_fld (pv 0) rfl) (pe_prop (pv 1) T.cl PT GT hr bT .nil pass0 rfl) (nomark _)) (pe_one (pe_cmpR op_eq (pe_fld (pv 0) rfl) (pe_prop (pv 1) T.cl PB GB hr bB .nil pass0 rfl) (nomark _)))))) pss_nil)
      (pss_one (ps_ret (pe_and (pe_call GW hr (by rfl) gW FW.kp bW .nil pass0 (pa_cons (pv 1) pa_nil)) (pe_and (pe_cmpR op_eq (pe_fld (pv 0) rfl) pe_int (nomark _)) (pe_one (pe_cmpR op_eq (pe_fld (pv 0) rfl) (pv 1) (nomark _)))))))), ?_⟩
    rcases q with ⟨a', t', b', rfl, ⟨dx', hp'⟩, q⟩ | ⟨ty, d, q⟩
    · refine ⟨_, rfl, .ref a', .ref C, .ref C, .ref C, true, rfl, .own C, .base (.ins hp' T.cl T.ca T.cn T.ct T.cm), T.kC, true, rfl, iteT ?_⟩
      refine ⟨_, rfl, a, C, dx, _, _, rfl, hp, T.cl, T.nT, rf_top t b, _, rfl, a', dx', _, rfl, hp', a', dx', _, _, rfl, hp', rf_top t' b', rfl, _, rfl, ?_⟩
      rw [dint]
      refine ite2 (fun hc => ?_) (fun hc => ?_)
      · rw [hc, Bool.true_and] at q
        refine ⟨_, rfl, a, C, dx, _, _, rfl, hp, T.cl, T.nB, rf_bot t b, _, rfl, a', dx', _, rfl, hp', a', dx', _, _, rfl, hp', rf_bot t' b', rfl, ?_⟩
        rw [dint]
        exact q
      · have e := Bool.eq_false_iff.mpr hc
        rw [e, Bool.false_and] at q
        exact q
    · refine ⟨_, rfl, y, .ref C, .type ty, .ref C, false, rfl, .own C, d.typ, T.kB _ d.mem, false, rfl, iteF ?_⟩
      refine ⟨_, rfl, y, ty, rfl, d, isI y, rfl, ?_⟩
      cases d with
      | int i =>
        refine iteT ⟨_, rfl, a, C, dx, _, _, rfl, hp, T.cl, T.nB, rf_bot t b, rfl, _, rfl, ?_⟩
        rw [dint]
        have e0 : eqO (.int i) t b = (decide (b = 1) && decide (t = i)) := rfl
        rw [e0] at q
        refine ite2 (fun hc => ?_) (fun hc => ?_)
        · rw [hc, Bool.true_and] at q
          refine ⟨_, rfl, a, C, dx, _, _, rfl, hp, T.cl, T.nT, rf_top t b, _, rfl, rfl, ?_⟩
          rw [dint]
          exact q
        · have e := Bool.eq_false_iff.mpr hc
          rw [e, Bool.false_and] at q
          exact q
      | non => exact iteF q
      | bl x => exact iteF q
      | str x => exact iteF q
      | lst e => exact iteF q
      | tup e => exact iteF q
      | dK e => exact iteF q
end
end T02

namespace T02
open PySem L2 SF
/-! ### lowest terms -/
def Low (t b : Int) : Prop := 0 < b ∧ Nat.gcd t.natAbs b.natAbs = 1
theorem Low.nt {t b : Int} (h : Low t b) : nt t b = t := by
  have e : gI t b = 1 := by unfold gI; rw [h.2]; rfl
  have h1 := h.1
  unfold T02.nt sg
  rw [if_neg (by omega), e, Int.fdiv_one]
theorem Low.nb {t b : Int} (h : Low t b) : nb t b = b := by
  have e : gI t b = 1 := by unfold gI; rw [h.2]; rfl
  have h1 := h.1
  unfold T02.nb sg
  rw [if_neg (by omega), e, Int.fdiv_one]
theorem sg_ne {u l : Int} (h : l ≠ 0) : sg u l ≠ 0 := by
  have e := sg_natAbs (u := u) (l := l)
  have h2 : 0 < Nat.gcd u.natAbs l.natAbs := Nat.gcd_pos_of_pos_right _ (Int.natAbs_pos.mpr h)
  omega
theorem sg_dvd {u l : Int} : sg u l ∣ u ∧ sg u l ∣ l := by
  have e := sg_natAbs (u := u) (l := l)
  constructor
  · apply Int.natAbs_dvd_natAbs.mp
    rw [e]
    exact Nat.gcd_dvd_left _ _
  · apply Int.natAbs_dvd_natAbs.mp
    rw [e]
    exact Nat.gcd_dvd_right _ _
theorem n_eqs {u l : Int} (h : l ≠ 0) : u = sg u l * nt u l ∧ l = sg u l * nb u l := by
  have hs := sg_ne (u := u) h
  obtain ⟨a, ha⟩ := (sg_dvd (u := u) (l := l)).1
  obtain ⟨c, hc⟩ := (sg_dvd (u := u) (l := l)).2
  have e1 : nt u l = a := by
    show Int.fdiv u (sg u l) = a
    have : Int.fdiv (sg u l * a) (sg u l) = a := Int.mul_fdiv_cancel_left _ hs
    rw [← ha] at this
    exact this
  have e2 : nb u l = c := by
    show Int.fdiv l (sg u l) = c
    have : Int.fdiv (sg u l * c) (sg u l) = c := Int.mul_fdiv_cancel_left _ hs
    rw [← hc] at this
    exact this
  rw [e1, e2]
  exact ⟨ha, hc⟩
theorem low_n {u l : Int} (h : l ≠ 0) : Low (nt u l) (nb u l) := by
  obtain ⟨h1, h2⟩ := n_eqs (u := u) h
  have e := sg_natAbs (u := u) (l := l)
  have hg : 0 < Nat.gcd u.natAbs l.natAbs := Nat.gcd_pos_of_pos_right _ (Int.natAbs_pos.mpr h)
  constructor
  · have hb : nb u l ≠ 0 := fun z => h (by rw [h2, z, Int.mul_zero])
    by_cases hl : l < 0
    · have es : sg u l = -gI u l := if_pos hl
      have hp := gI_pos (u := u) h
      by_cases hn : 0 < nb u l
      · exact hn
      · have : 0 ≤ sg u l * nb u l := by
          rw [es]
          exact Int.mul_nonneg_of_nonpos_of_nonpos (by omega) (by omega)
        omega
    · have es : sg u l = gI u l := if_neg hl
      have hp := gI_pos (u := u) h
      by_cases hn : 0 < nb u l
      · exact hn
      · have : sg u l * nb u l ≤ 0 := by
          rw [es]
          exact Int.mul_nonpos_of_nonneg_of_nonpos (by omega) (by omega)
        omega
  · have e1 : u.natAbs = Nat.gcd u.natAbs l.natAbs * (nt u l).natAbs := by
      rw [← e, ← Int.natAbs_mul, ← h1]
    have e2 : l.natAbs = Nat.gcd u.natAbs l.natAbs * (nb u l).natAbs := by
      rw [← e, ← Int.natAbs_mul, ← h2]
    have e3 : Nat.gcd u.natAbs l.natAbs = Nat.gcd u.natAbs l.natAbs * Nat.gcd (nt u l).natAbs (nb u l).natAbs := by
      rw [← Nat.gcd_mul_left, ← e1, ← e2]
    exact (Nat.eq_of_mul_eq_mul_left hg (by rw [Nat.mul_one]; exact e3)).symm
theorem n_neg {u l : Int} (h : l ≠ 0) : nt (-u) (-l) = nt u l ∧ nb (-u) (-l) = nb u l := by
  have e : gI (-u) (-l) = gI u l := by unfold gI; rw [Int.natAbs_neg, Int.natAbs_neg]
  have es : sg (-u) (-l) = -sg u l := by
    unfold sg
    rw [e]
    by_cases hl : l < 0
    · rw [if_neg (by omega), if_pos hl]; omega
    · rw [if_pos (by omega), if_neg hl]
  unfold nt nb
  rw [es, Int.neg_fdiv_neg, Int.neg_fdiv_neg]
  exact ⟨rfl, rfl⟩
theorem n_le {u l : Int} (h : l ≠ 0) : (nt u l).natAbs ≤ u.natAbs ∧ (nb u l).natAbs ≤ l.natAbs := by
  obtain ⟨h1, h2⟩ := n_eqs (u := u) h
  have hs : 0 < (sg u l).natAbs := Int.natAbs_pos.mpr (sg_ne h)
  constructor
  · have e := congrArg Int.natAbs h1
    rw [Int.natAbs_mul] at e
    rw [e]
    exact Nat.le_mul_of_pos_left _ hs
  · have e := congrArg Int.natAbs h2
    rw [Int.natAbs_mul] at e
    rw [e]
    exact Nat.le_mul_of_pos_left _ hs
/-- the neighbour is another fraction -/
theorem near_ne {t b : Int} (h : Low t b) : (decide (t = nt (t + 1) b) && decide (b = nb (t + 1) b)) = false := by
  have hb : b ≠ 0 := by have := h.1; omega
  by_cases h2 : b = nb (t + 1) b
  · by_cases h1 : t = nt (t + 1) b
    · obtain ⟨e1, e2⟩ := n_eqs (u := t + 1) hb
      rw [← h2] at e2
      rw [← h1] at e1
      have hs : sg (t + 1) b = 1 := Int.eq_of_mul_eq_mul_right hb (by rw [Int.one_mul]; exact e2.symm)
      rw [hs, Int.one_mul] at e1
      omega
    · rw [decide_eq_false h1]; rfl
  · rw [decide_eq_false h2, Bool.and_false]
theorem le_of_big {n : Int} (h0 : -Big ≤ n) (h1 : n ≤ Big) : LE n := by
  unfold Big at h0 h1
  unfold LE
  omega

section
variable {K : PySem.W.Frag} {mg : Str → Option Value} {C : Addr} {H H' : Hp} {a a' : Addr} {t b t' b' : Int} {Q : VK}
theorem RatH.same (r : RatH C H a t b) (s : Same H H') : RatH C H' a t b := let ⟨dx, e⟩ := r; ⟨dx, s _ _ e⟩
theorem Same.new {p : Addr} {o : HO} (s : Same H H') (h : H' p = none) : Same H (upd H' p o) := fun c u e => by
  rw [upd_ne (ne_of_none (s _ _ e) h)]
  exact s _ _ e
/-- C(t, b) -/
theorem mk_read (h0 : b ≠ 0) (hb : LE b) (q : ∀ x H2, H x = none → Same H H2 → RatH C H2 x (nt t b) (nb t b) → Q (.ref x) H2) :
    ∀ x dx, H x = none → H dx = none → dx ≠ x → spInit C [.ref x, .int t, .int b] (upd (upd H dx (.own x)) x (.ins C dx [])) (fun v H2 => v = .non ∧ Q (.ref x) H2) E0 := fun x dx hx hd hn => by
  refine ⟨x, dx, t, b, rfl, h0, hb, upd_same, rfl, ?_⟩
  rw [upd_upd]
  refine q x _ hx ?_ ⟨dx, upd_same⟩
  refine Same.new (Same.new (Same.refl H) hd) ?_
  rw [upd_ne (Ne.symm hn)]
  exact hx
theorem mk_fin {x dx : Addr} {W : VK} (hx : H x = none) (hd : H dx = none) (hn : dx ≠ x) (h0 : b ≠ 0) (hb : LE b) (q : ∀ H2, Same H H2 → RatH C H2 x (nt t b) (nb t b) → W .non H2) :
    spInit C [.ref x, .int t, .int b] (upd (upd H dx (.own x)) x (.ins C dx [])) W E0 := by
  refine ⟨x, dx, t, b, rfl, h0, hb, upd_same, ?_⟩
  rw [upd_upd]
  refine q _ ?_ ⟨dx, upd_same⟩
  refine Same.new (Same.new (Same.refl H) hd) ?_
  rw [upd_ne (Ne.symm hn)]
  exact hx
theorem nf {T : String} (h : T ∈ kinds) : PySem.W.notFirst K C (.type T) = true := by
  unfold kinds at h
  simp only [List.mem_cons, List.not_mem_nil, or_false] at h
  rcases h with rfl | rfl | rfl | rfl | rfl | rfl | rfl <;> rfl
theorem RC.typ (T : RC K mg C) (r : RatH C H a t b) : TyX K H (.ref a) (.ref C) := let ⟨dx, e⟩ := r; .base (.ins e T.cl T.ca T.cn T.ct T.cm)
theorem nfC : PySem.W.notFirst K C (.ref C) = true := by simp [PySem.W.notFirst]
theorem eq_rr (T : RC K mg C) (r : RatH C H a t b) (r' : RatH C H a' t' b') (q : Q (.bl (decide (t = t') && decide (b = b'))) H) : rOwnL K C (spEq C) E0 (.ref a) (.ref a') H Q :=
  let ⟨dx, e⟩ := r; ⟨a, dx, _, .ref C, rfl, e, T.typ r', nfC, a, t, b, _, rfl, r, .inl ⟨a', t', b', rfl, r', q⟩⟩
theorem eq_ro {y : V} {T : String} (r : RatH C H a t b) (d : Dec H y T) (q : Q (.bl (eqO y t b)) H) : rOwnL K C (spEq C) E0 (.ref a) y H Q :=
  let ⟨dx, e⟩ := r; ⟨a, dx, _, .type T, rfl, e, d.typ, nf d.mem, a, t, b, _, rfl, r, .inr ⟨T, d, q⟩⟩
theorem eq_or {y : V} {T : String} (r : RatH C H a t b) (d : Dec H y T) (q : Q (.bl (eqO y t b)) H) : rOwnR C (spEq C) E0 y (.ref a) H Q :=
  let ⟨dx, e⟩ := r; ⟨T, a, dx, _, rfl, e, d, a, t, b, _, rfl, r, .inr ⟨T, d, q⟩⟩
theorem ne_rr (T : RC K mg C) (r : RatH C H a t b) (r' : RatH C H a' t' b') (q : Q (.bl (!(decide (t = t') && decide (b = b')))) H) : rOwnNeL K C (spEq C) E0 (.ref a) (.ref a') H Q :=
  let ⟨dx, e⟩ := r; ⟨a, dx, _, .ref C, rfl, e, T.typ r', nfC, a, t, b, _, rfl, r, .inl ⟨a', t', b', rfl, r', _, rfl, q⟩⟩
theorem ne_ro {y : V} {T : String} (r : RatH C H a t b) (d : Dec H y T) (q : Q (.bl (!eqO y t b)) H) : rOwnNeL K C (spEq C) E0 (.ref a) y H Q :=
  let ⟨dx, e⟩ := r; ⟨a, dx, _, .type T, rfl, e, d.typ, nf d.mem, a, t, b, _, rfl, r, .inr ⟨T, d, _, rfl, q⟩⟩
theorem ne_or {i : Int} (r : RatH C H a t b) (q : Q (.bl (!eqO (.int i) t b)) H) : rOwnNeR C (spEq C) E0 (.int i) (.ref a) H Q :=
  let ⟨dx, e⟩ := r; ⟨i, a, dx, _, rfl, rfl, e, a, t, b, _, rfl, r, .inr ⟨"int", .int i, _, rfl, q⟩⟩
end
end T02

namespace T02
open PySem PySem.Spec PyProof.Rows L2 SF
abbrev sEqR : Stmt := top 31
def gBT {α : Type} (vs _ds zs : List α) : List α := match zs with
  | [b, t] => vs ++ [t, b]
  | _ => vs
def gT1 {α : Type} (vs ds zs : List α) : List α := match zs with
  | [t] => vs ++ (t :: ds)
  | _ => vs
/-- the fraction's class as it stands behind the top, with what its methods promise -/
structure RatT (P : Program) (w : World) (K : PySem.W.Frag) (mg : Str → Option Value) (base : Heap) (C : Addr) where
  rc : RC K mg C
  ns : NoSub K C
  repr_ : mg "repr" = none
  fI : Addr
  dI : FuncData
  GI : FnOk P w K mg base CX0 2 fI dI ["self", "top", "bottom"] (spInit C)
  M : Mk K C fI
  bI : Binds K dI ["self", "top", "bottom"] []
  i1 : List Value
  v1 : Vals [V.int 1] i1
  b1 : Binds K dI ["self", "top", "bottom"] i1
  g2 : List Value → List Value → List Value
  k2 : KBn K dI ["self", "top", "bottom"] 1 ["bottom", "top"] g2 (fun vs zs => gBT vs [V.int 1] zs)
  g3 : List Value → List Value → List Value
  k3 : KBn K dI ["self", "top", "bottom"] 1 ["top"] g3 (fun vs zs => gT1 vs [V.int 1] zs)
  fE : Addr
  dE : FuncData
  GE : FnOk P w K mg base CX0 3 fE dE ["self", "other"] (spEq C)
  bE : Binds K dE ["self", "other"] []
  hE : PySem.W.findIn K (.ref C) "__eq__" = some (some (.ref fE))
  eEf : PySem.W.isFn K (.ref fE) = true
  hNe : PySem.W.findIn K (.ref C) "__ne__" = some (some (.builtin "object.__ne__"))
  fB : Addr
  dB : FuncData
  GB : FnOk P w K mg base CX0 1 fB dB ["self"] (spBool C)
  bB : Binds K dB ["self"] []
  hB : PySem.W.findIn K (.ref C) "__bool__" = some (some (.ref fB))
  eBf : PySem.W.isFn K (.ref fB) = true
  fS : Addr
  dS : FuncData
  GS : FnOk P w K mg base CX0 1 fS dS ["self"] (spStr C)
  bS : Binds K dS ["self"] []
  hS : PySem.W.findIn K (.ref C) "__str__" = some (some (.ref fS))
  eSf : PySem.W.isFn K (.ref fS) = true
  fR : Addr
  dR : FuncData
  GR : FnOk P w K mg base CX0 1 fR dR ["self"] (spRepr C)
  bR : Binds K dR ["self"] []
  hR : PySem.W.findIn K (.ref C) "__repr__" = some (some (.ref fR))
  eRf : PySem.W.isFn K (.ref fR) = true
  fT : Addr
  dT : FuncData
  GT : FnOk P w K mg base CX0 1 fT dT ["self"] (getSp C "_top")
  bT : Binds K dT ["self"] []
  pT : Addr
  PT : PropOf K C "top" pT fT
  fO : Addr
  dO : FuncData
  GO : FnOk P w K mg base CX0 1 fO dO ["self"] (getSp C "_bottom")
  bO : Binds K dO ["self"] []
  pO : Addr
  PO : PropOf K C "bottom" pO fO
section
variable {X : Cx} {CX : CXT} {n : Nat} {C g : Addr} {fd : FuncData} {ps : List Str} {sp : Sp} {E : XK} {K : PySem.W.Frag}
theorem op_ownL2 (hK : X.K = K) (hs : PySem.W.findIn K (.ref C) "__eq__" = some (some (.ref g))) (hf : PySem.W.isFn K (.ref g) = true)
    (F : FnOk X.prog X.w K X.mg X.base CX n g fd ps sp) (hb : Binds K fd ps []) (hr : Room n X.A) (hx : Passes CX X E) : OpR X (compareOp .Eq) (rOwnL K C sp E) := by
  subst hK
  exact op_ownL (op := .Eq) (fun _ _ => rfl) hs hf F hb hr hx
theorem op_ownNeL2 (hK : X.K = K) (hne : PySem.W.findIn K (.ref C) "__ne__" = some (some (.builtin "object.__ne__"))) (hm : PySem.W.mroIn K C (.type "object") = some true)
    (hs : PySem.W.findIn K (.ref C) "__eq__" = some (some (.ref g))) (hf : PySem.W.isFn K (.ref g) = true)
    (F : FnOk X.prog X.w K X.mg X.base CX n g fd ps sp) (hb : Binds K fd ps []) (hr : Room (n + 1) X.A) (hx : Passes CX X E) : OpR X (compareOp .NotEq) (rOwnNeL K C sp E) := by
  subst hK
  exact op_ownNeL hne hm hs hf F hb hr hx
end
section
variable {X : Cx} {e : Expr} {ta : TE} {pos : Pos} {r : V → Hp → (Bool → Hp → Prop) → Prop}
theorem pe_notOwn (hT : TruR X r) (ha : PE X e ta) : PE X (.UnaryOp .Not e pos) (fun σ H Q => ta σ H fun x H1 => r x H1 fun c H2 => Q (.bl (!c)) H2) := by
  refine ⟨fun pins s σ H Q I h => ?_⟩
  refine UnaryOp_ (thn (ha.run pins s σ H _ I h) fun v s1 ⟨x, H1, I1, r1, q1⟩ => ?_)
  exact not_of (thn (hT pins s1 σ H1 x v (fun c H2 => Q (.bl (!c)) H2) I1 r1 q1) fun c s2 ⟨H2, I2, q2⟩ => ⟨.bl (!c), H2, I2, rfl, q2⟩)
end
section
variable {P : Program} {w : World} {K : PySem.W.Frag} {mg : Str → Option Value} {base : Heap} {C : Addr} {H H' : Hp}
theorem keep {a p : Addr} {o u : HO} (e : H a = some o) (n : H p = none) : upd H p u a = some o := by rw [upd_ne (ne_of_none e n)]; exact e
theorem upd_got {p : Addr} {o : HO} (h : upd H p o = H') : H' p = some o := by rw [← h]; exact upd_same
theorem upd_stay {p : Addr} {o : HO} (h : upd H p o = H') (n : H p = none) : Same H H' := by rw [← h]; exact Same.new (Same.refl _) n
theorem RatH.new {a p : Addr} {t b : Int} {u : HO} (r : RatH C H a t b) (n : H p = none) : RatH C (upd H p u) a t b := let ⟨dx, e⟩ := r; ⟨dx, keep e n⟩
theorem dec_same {y : V} {T : String} (d : Dec H y T) (s : Same H H') : Dec H' y T := by
  cases d with
  | non => exact .non
  | bl b => exact .bl b
  | int i => exact .int i
  | str x => exact .str x
  | lst e => exact .lst (s _ _ e)
  | tup e => exact .tup (s _ _ e)
  | dK e => exact .dK (s _ _ e)
theorem dec_new {y : V} {T : String} {p : Addr} {u : HO} (d : Dec H y T) (n : H p = none) : Dec (upd H p u) y T := by
  cases d with
  | non => exact .non
  | bl b => exact .bl b
  | int i => exact .int i
  | str x => exact .str x
  | lst e => exact .lst (keep e n)
  | tup e => exact .tup (keep e n)
  | dK e => exact .dK (keep e n)
theorem scEqR : FnScope ["_law_made", "_law_due", "_law_over", "_law_under", "_law_twin", "_law_near", "_law_seen", "_law_is_whole", "_law_dues", "_law_others", "_law_mate"] ["_law_made", "_law_due"] (defScope sEqR) := ⟨rfl, rfl, rfl, by decide +kernel, rfl, by decide +kernel, by decide +kernel⟩
theorem take_map {xs : List V} {i : Nat} {y : V} (f : V → V) (h : xs[i]? = some y) : (xs.take (i + 1)).map f = (xs.take i).map f ++ [f y] := by
  rw [List.take_add_one, h, List.map_append]
  rfl
/-- what the comparisons give, by two truth values: whole, not 0 -/
def DB (i n : Bool) : List Bool := [true, true, false, false, true, i, i, !i, !i, false, false] ++ (List.replicate 9 false ++ (List.replicate 9 true ++ (List.replicate 9 false ++ [n, !n])))
theorem flat_bls : ∀ bs : List Bool, flatDs (bs.map V.bl) = some (bs.map PyData.bool)
  | [] => rfl
  | b :: bs => by
    show (match flatD (.bl b), flatDs (bs.map V.bl) with | some d, some ds => some (d :: ds) | _, _ => none) = _
    rw [flat_bls bs]
    rfl
theorem DB_len : ∀ i n : Bool, (PyData.list ((DB i n).map PyData.bool)).shown.length ≤ sizeLine := by
  intro i n
  cases i <;> cases n <;> decide +kernel
def spEqR (C : Addr) : Sp := fun vs H Q _ => ∃ a p t b, vs = [.ref a, .ref p] ∧ RatH C H a t b ∧ H p = some (.tup [.int t, .int b]) ∧ Low t b ∧ -Big ≤ t ∧ t < Big ∧ b < Big ∧ ∀ H', Same H H' → Q (.bl true) H'
end
end T02

namespace T02
open PySem PySem.Spec PyProof.Rows L2 SF
section
variable {P : Program} {w : World} {K : PySem.W.Frag} {mg : Str → Option Value} {base : Heap} {C : Addr} {H H' : Hp}
theorem ok_eqR {f : Addr} {fd : FuncData} (F : Fun K "_law_equal_right" "_law_equal_right" sEqR f fd) (R : RatT P w K mg base C) : FnG P w K mg base CX0 5 f fd ["_law_made", "_law_due"] (spEqR C) := by
  refine okG F scEqR (fun vs H Q E h => ?_) (fun cdv A outer s H vs Q E hgd hr h => ?_)
  · obtain ⟨a, p, t, b, rfl, _⟩ := h
    rfl
  · obtain ⟨a, p, t, b, rfl, r0, hp, low, t0, t1, b1, q⟩ := h
    have T := R.rc
    have hr3 : Room 3 (A.deeper (envOfC "_law_equal_right" (defScope sEqR) s.heap.objs.size f cdv)) := hr.mono (by decide)
    have hr1 : Room 1 (A.deeper (envOfC "_law_equal_right" (defScope sEqR) s.heap.objs.size f cdv)) := hr.mono (by decide)
    have hb0 : b ≠ 0 := by have := low.1; omega
    have lt : LE t := le_of_big t0 (by omega)
    have lb : LE b := le_of_big (by have := low.1; unfold Big; omega) (by omega)
    refine ⟨_, (pss_cons (ps_asg (pv 1) (pg_tup rfl (pgs_cons (pg_name (i := 2) scEqR.nd rfl (.inl rfl)) (pgs_cons (pg_name (i := 3) scEqR.nd rfl (.inl rfl)) pgs_nil))))
      (pss_cons (ps_par (i := 4) (j := 5) (by rfl) scEqR.nd rfl rfl (by decide) rfl rfl (pa_cons (pe_make R.M R.GI hr3 (by rfl) R.rc.mgC R.bI .nil pass0 (pa_cons (pv 2) (pa_cons (pv 3) pa_nil))) (pa_cons (pe_make R.M R.GI hr3 (by rfl) R.rc.mgC R.bI .nil pass0 (pa_cons (pe_op op_add (pv 2) pe_int) (pa_cons (pv 3) pa_nil))) pa_nil)) (by rfl))
      (pss_cons (ps_set (i := 6) scEqR.nd rfl (.inl rfl) (pe_lst (pa_cons (pe_cmpR (op_ownL2 (K := K) rfl R.hE R.eEf R.GE R.bE hr3 pass0) (pv 0) (pv 4) (nomark _)) (pa_cons (pe_cmpR (op_ownL2 (K := K) rfl R.hE R.eEf R.GE R.bE hr3 pass0) (pv 4) (pv 0) (nomark _)) (pa_cons (pe_cmpR (op_ownNeL2 (K := K) rfl R.hNe R.rc.cm R.hE R.eEf R.GE R.bE hr pass0) (pv 0) (pv 4) (nomark _)) (pa_cons (pe_cmpR (op_ownL2 (K := K) rfl R.hE R.eEf R.GE R.bE hr3 pass0) (pv 0) (pv 5) (nomark _)) (pa_cons (pe_cmpR (op_ownNeL2 (K := K) rfl R.hNe R.rc.cm R.hE R.eEf R.GE R.bE hr pass0) (pv 5) (pv 0) (nomark _)) (pa_cons (pe_cmpR (op_ownL2 (K := K) rfl R.hE R.eEf R.GE R.bE hr3 pass0) (pv 0) (pv 2) (nomark _)) (pa_cons (pe_cmpR (op_ownR R.hE R.eEf R.ns R.GE R.bE hr3 pass0) (pv 2) (pv 0) (nomark _)) pa_nil)))))))))
      (pss_cons (ps_set (i := 6) scEqR.nd rfl (.inl rfl) (pe_op op_cat (pv 6) (pe_lst (pa_cons (pe_cmpR (op_ownNeL2 (K := K) rfl R.hNe R.rc.cm R.hE R.eEf R.GE R.bE hr pass0) (pv 0) (pv 2) (nomark _)) (pa_cons (pe_cmpR (op_ownNeR R.hNe R.rc.cm R.hE R.eEf R.ns R.GE R.bE hr pass0) (pv 2) (pv 0) (nomark _)) (pa_cons (pe_cmpR (op_ownL2 (K := K) rfl R.hE R.eEf R.GE R.bE hr3 pass0) (pv 0) (pe_op op_add (pv 2) pe_int) (nomark _)) (pa_cons (pe_cmpR (op_ownR R.hE R.eEf R.ns R.GE R.bE hr3 pass0) (pe_op op_sub (pv 2) pe_int) (pv 0) (nomark _)) pa_nil)))))))
      (pss_cons (ps_set (i := 7) scEqR.nd rfl (.inl rfl) (pe_cmpR op_eq (pv 3) pe_int (nomark _)))
      (pss_cons (ps_set (i := 8) scEqR.nd rfl (.inl rfl) (pe_lst (pa_cons pe_bl (pa_cons pe_bl (pa_cons pe_bl (pa_cons pe_bl (pa_cons pe_bl (pa_cons (pv 7) (pa_cons (pv 7) (pa_cons (pe_not (pv 7)) (pa_cons (pe_not (pv 7)) (pa_cons pe_bl (pa_cons pe_bl pa_nil)))))))))))))
      (pss_cons (ps_set (i := 9) scEqR.nd rfl (.inl rfl) (pe_lst (pa_cons pe_non (pa_cons pe_bl (pa_cons pe_bl (pa_cons (pe_callTy (call_strOwn R.hS R.eSf R.GS R.bS hr3 pass0) (by rfl) R.rc.str_ (by decide +kernel) (pa_cons (pv 0) pa_nil)) (pa_cons pe_str (pa_cons (pv 1) (pa_cons (pe_tup (pa_cons (pv 2) pa_nil)) (pa_cons (pe_lst (pa_cons (pv 2) (pa_cons (pv 3) pa_nil))) (pa_cons pe_dnewK pa_nil)))))))))))
      (pss_cons (ps_set (i := 6) scEqR.nd rfl (.inl rfl) (pe_op op_cat (pe_op op_cat (pv 6) (pe_lc (own := [("_law_mate", 10)]) (g := gName 10) (tt := tYes) rfl scEqR.nd (pi_list (pv 9)) (blkOk_by (N := ["_law_made", "_law_due", "_law_over", "_law_under", "_law_twin", "_law_near", "_law_seen", "_law_is_whole", "_law_dues", "_law_others", "_law_mate"]) (sc := defScope sEqR) (by decide +kernel)) (fun _ _ _ _ _ => pg_name (i := 10) scEqR.nd rfl (Or.inl rfl)) (fun _ _ _ _ _ => pts_nil) (fun _ _ _ _ _ => (pe_cmpR (op_ownL2 (K := K) rfl R.hE R.eEf R.GE R.bE hr3 pass0) (pv 0) (pv 10) (nomark _))))) (pe_lc (own := [("_law_mate", 10)]) (g := gName 10) (tt := tYes) rfl scEqR.nd (pi_list (pv 9)) (blkOk_by (N := ["_law_made", "_law_due", "_law_over", "_law_under", "_law_twin", "_law_near", "_law_seen", "_law_is_whole", "_law_dues", "_law_others", "_law_mate"]) (sc := defScope sEqR) (by decide +kernel)) (fun _ _ _ _ _ => pg_name (i := 10) scEqR.nd rfl (Or.inl rfl)) (fun _ _ _ _ _ => pts_nil) (fun _ _ _ _ _ => (pe_cmpR (op_ownNeL2 (K := K) rfl R.hNe R.rc.cm R.hE R.eEf R.GE R.bE hr pass0) (pv 0) (pv 10) (nomark _))))))
      (pss_cons (ps_set (i := 6) scEqR.nd rfl (.inl rfl) (pe_op op_cat (pe_op op_cat (pv 6) (pe_lc (own := [("_law_mate", 10)]) (g := gName 10) (tt := tYes) rfl scEqR.nd (pi_list (pv 9)) (blkOk_by (N := ["_law_made", "_law_due", "_law_over", "_law_under", "_law_twin", "_law_near", "_law_seen", "_law_is_whole", "_law_dues", "_law_others", "_law_mate"]) (sc := defScope sEqR) (by decide +kernel)) (fun _ _ _ _ _ => pg_name (i := 10) scEqR.nd rfl (Or.inl rfl)) (fun _ _ _ _ _ => pts_nil) (fun _ _ _ _ _ => (pe_cmpR (op_ownR R.hE R.eEf R.ns R.GE R.bE hr3 pass0) (pv 10) (pv 0) (nomark _))))) (pe_lst (pa_cons (pe_callTy (call_boolOwn R.hB R.eBf R.GB R.bB hr3 pass0) (by rfl) R.rc.bool_ (by decide +kernel) (pa_cons (pv 0) pa_nil)) (pa_cons (pe_notOwn (tru_own R.hB R.eBf R.GB R.bB hr1 pass0) (pv 0)) pa_nil)))))
      (pss_cons (ps_set (i := 8) scEqR.nd rfl (.inl rfl) (pe_op op_cat (pe_op op_cat (pe_op op_cat (pe_op op_cat (pv 8) (pe_op op_rep (pe_lst (pa_cons pe_bl pa_nil)) pe_int)) (pe_op op_rep (pe_lst (pa_cons pe_bl pa_nil)) pe_int)) (pe_op op_rep (pe_lst (pa_cons pe_bl pa_nil)) pe_int)) (pe_lst (pa_cons (pe_cmpR op_ne (pv 2) pe_int (nomark _)) (pa_cons (pe_cmpR op_eq (pv 2) pe_int (nomark _)) pa_nil)))))
      (pss_one (ps_ret (pe_cmpR op_eq (pe_callB (call_reprL hgd hr) (by rfl) R.repr_ (by decide +kernel) (pa_cons (pv 6) pa_nil)) (pe_callB (call_reprL hgd hr) (by rfl) R.repr_ (by decide +kernel) (pa_cons (pv 8) pa_nil)) (nomark _)))))))))))))), ?_⟩
    refine ⟨_, rfl, p, _, rfl, SqT.of hp, rfl, _, _, rfl, _, _, rfl, rfl, ?_⟩
    refine ⟨_, rfl, _, rfl, ?_⟩
    intro x2 dx2 hx2 hd2 hn2
    refine mk_fin hx2 hd2 hn2 hb0 lb fun H2 s2 r2 => ⟨rfl, ?_⟩
    rw [low.nt, low.nb] at r2
    refine ⟨_, rfl, _, _, rfl, rfl, _, rfl, ?_⟩
    intro x3 dx3 hx3 hd3 hn3
    refine mk_fin hx3 hd3 hn3 hb0 lb fun H3 s3 r3 => ⟨rfl, _, _, rfl, ?_⟩
    have r0 := (r0.same s2).same s3
    have r2 := r2.same s3
    have sS := s2.trans s3
    have near := near_ne low
    refine ⟨_, rfl, _, rfl, eq_rr T r0 r2 ⟨_, rfl, _, rfl, eq_rr T r2 r0 ⟨_, rfl, _, rfl, ne_rr T r0 r2 ⟨_, rfl, _, rfl, eq_rr T r0 r3 ⟨_, rfl, _, rfl, ne_rr T r3 r0 ⟨_, rfl, _, rfl, eq_ro r0 (.int t) ⟨_, rfl, _, rfl, eq_or r0 (.int t) ?_⟩⟩⟩⟩⟩⟩⟩
    refine ⟨(by show 7 ≤ sizeLine; decide), fun l7 h7 => ?_⟩
    generalize hE7 : upd H3 l7 _ = H7
    have hl7 := upd_got hE7
    have s7 := upd_stay hE7 h7
    have r7 := r0.same s7
    refine ⟨_, rfl, _, rfl, _, rfl, ne_ro r7 (.int t) ⟨_, rfl, _, rfl, ne_or r7 ⟨_, rfl, _, rfl, t, 1, rfl, rfl, eq_ro r7 (.int (t + 1)) ⟨_, rfl, t, 1, rfl, rfl, _, rfl, eq_or r7 (.int (t - 1)) ?_⟩⟩⟩⟩
    refine ⟨(by show 4 ≤ sizeLine; decide), fun l4 h4 => ?_⟩
    generalize hE4 : upd H7 l4 _ = H4
    have hl4 := upd_got hE4
    have s4 := upd_stay hE4 h4
    refine ⟨l7, l4, _, _, rfl, rfl, s4 _ _ hl7, hl4, (by show 11 ≤ sizeLine; decide), fun lA hA => ?_⟩
    generalize hEA : upd H4 lA _ = HA
    have hlA := upd_got hEA
    have sA := upd_stay hEA hA
    have rA := (r7.same s4).same sA
    have ssA := ((sS.trans s7).trans s4).trans sA
    refine ⟨_, rfl, rfl, ?_⟩
    refine ⟨_, rfl, _, rfl, _, rfl, _, rfl, _, rfl, _, rfl, (by show 11 ≤ sizeLine; decide), fun lD hD => ?_⟩
    generalize hED : upd HA lD _ = HD
    have hlD := upd_got hED
    have sD := upd_stay hED hD
    have rD := rA.same sD
    obtain ⟨dxD, eD⟩ := id rD
    refine ⟨_, rfl, a, dxD, _, rfl, eD, a, t, b, rfl, rD, lt, lb, _, rfl, ?_⟩
    refine ⟨_, rfl, _, rfl, (by show 1 ≤ sizeLine; decide), fun p1 hp1 => ?_⟩
    generalize hE1 : upd HD p1 _ = G1
    have hg1 := upd_got hE1
    have t1' := upd_stay hE1 hp1
    refine ⟨_, rfl, _, rfl, (by show 2 ≤ sizeLine; decide), fun p2 hp2 => ?_⟩
    generalize hE2 : upd G1 p2 _ = G2
    have hg2 := upd_got hE2
    have t2' := upd_stay hE2 hp2
    refine fun p3 hp3 => ?_
    generalize hE3 : upd G2 p3 _ = G3
    have hg3 := upd_got hE3
    have t3' := upd_stay hE3 hp3
    refine ⟨(by show 9 ≤ sizeLine; decide), fun lO hO => ?_⟩
    generalize hEO : upd G3 lO _ = HO'
    have hlO := upd_got hEO
    have sO := upd_stay hEO hO
    have sDO := ((t1'.trans t2').trans t3').trans sO
    have rO := rD.same sDO
    have ssO := (ssA.trans sD).trans sDO
    generalize hXS : [V.non, V.bl true, V.bl false, V.str (rstr t b), V.str "", V.ref p, V.ref p1, V.ref p2, V.ref p3] = XS at hlO
    have hdec : ∀ y ∈ XS, ∃ T, Dec HO' y T := by
      intro y hy
      rw [← hXS] at hy
      simp only [List.mem_cons, List.not_mem_nil, or_false] at hy
      rcases hy with rfl | rfl | rfl | rfl | rfl | rfl | rfl | rfl | rfl
      · exact ⟨_, .non⟩
      · exact ⟨_, .bl _⟩
      · exact ⟨_, .bl _⟩
      · exact ⟨_, .str _⟩
      · exact ⟨_, .str _⟩
      · exact ⟨_, .tup (ssO _ _ hp)⟩
      · exact ⟨_, .tup (((t2'.trans t3').trans sO) _ _ hg1)⟩
      · exact ⟨_, .lst ((t3'.trans sO) _ _ hg2)⟩
      · exact ⟨_, .dK (sO _ _ hg3)⟩
    have lenXS : XS.length = 9 := by rw [← hXS]; rfl
    have mapF : XS.map (fun y => V.bl (eqO y t b)) = List.replicate 9 (V.bl false) := by rw [← hXS]; rfl
    have mapT : XS.map (fun y => V.bl (!eqO y t b)) = List.replicate 9 (V.bl true) := by rw [← hXS]; rfl
    have hlAO := (sD.trans sDO) _ _ hlA
    have hlDO := sDO _ _ hlD
    refine ⟨_, rfl, _, rfl, lO, rfl, ⟨_, SqL.of hlO⟩, fun D1 hD1 => lc_list (K := K) (a := lO) (xs := XS) (fun i H' => H' = upd HO' D1 (.lst ((XS.take i).map fun y => V.bl (eqO y t b)))) rfl (fun i H' _ e => by rw [e]; exact SqL.of (keep hlO hD1)) (fun i y H' hi e => ?_) (fun H' e => ?_)⟩
    · subst e
      obtain ⟨ty, d⟩ := hdec y (List.mem_of_getElem? hi)
      refine ⟨rfl, _, rfl, _, rfl, eq_ro (rO.new hD1) (dec_new d hD1) ⟨_, upd_same, Nat.lt_of_le_of_lt (m := 9) (by rw [List.length_map, List.length_take, lenXS]; exact Nat.min_le_right _ _) (by decide), ?_⟩⟩
      show upd (upd HO' D1 _) D1 _ = upd HO' D1 _
      rw [upd_upd, take_map _ hi]
    rw [List.take_length, mapF] at e
    have hB1 := upd_got e.symm
    have u1 := upd_stay e.symm hD1
    refine ⟨lA, D1, _, _, rfl, rfl, u1 _ _ hlAO, hB1, (by show 20 ≤ sizeLine; decide), fun lB hB => ?_⟩
    generalize hEB : upd H' lB _ = HB
    have hlB := upd_got hEB
    have sB := upd_stay hEB hB
    have uB := u1.trans sB
    have hlOB := uB _ _ hlO
    refine ⟨_, rfl, lO, rfl, ⟨_, SqL.of hlOB⟩, fun D2 hD2 => lc_list (K := K) (a := lO) (xs := XS) (fun i H' => H' = upd HB D2 (.lst ((XS.take i).map fun y => V.bl (!eqO y t b)))) rfl (fun i H' _ e => by rw [e]; exact SqL.of (keep hlOB hD2)) (fun i y H' hi e => ?_) (fun H' e => ?_)⟩
    · subst e
      obtain ⟨ty, d⟩ := hdec y (List.mem_of_getElem? hi)
      refine ⟨rfl, _, rfl, _, rfl, ne_ro ((rO.same uB).new hD2) (dec_new (dec_same d uB) hD2) ⟨_, upd_same, Nat.lt_of_le_of_lt (m := 9) (by rw [List.length_map, List.length_take, lenXS]; exact Nat.min_le_right _ _) (by decide), ?_⟩⟩
      show upd (upd HB D2 _) D2 _ = upd HB D2 _
      rw [upd_upd, take_map _ hi]
    rw [List.take_length, mapT] at e
    have hB2 := upd_got e.symm
    have u2 := upd_stay e.symm hD2
    refine ⟨lB, D2, _, _, rfl, rfl, u2 _ _ hlB, hB2, (by show 29 ≤ sizeLine; decide), fun lC hC => ?_⟩
    generalize hEC : upd _ lC _ = HC
    have hlC := upd_got hEC
    have sC := upd_stay hEC hC
    have uC := (uB.trans u2).trans sC
    have hlOC := uC _ _ hlO
    refine ⟨_, rfl, _, rfl, lO, rfl, ⟨_, SqL.of hlOC⟩, fun D3 hD3 => lc_list (K := K) (a := lO) (xs := XS) (fun i H' => H' = upd HC D3 (.lst ((XS.take i).map fun y => V.bl (eqO y t b)))) rfl (fun i H' _ e => by rw [e]; exact SqL.of (keep hlOC hD3)) (fun i y H' hi e => ?_) (fun H' e => ?_)⟩
    · subst e
      obtain ⟨ty, d⟩ := hdec y (List.mem_of_getElem? hi)
      refine ⟨rfl, _, rfl, _, rfl, eq_or ((rO.same uC).new hD3) (dec_new (dec_same d uC) hD3) ⟨_, upd_same, Nat.lt_of_le_of_lt (m := 9) (by rw [List.length_map, List.length_take, lenXS]; exact Nat.min_le_right _ _) (by decide), ?_⟩⟩
      show upd (upd HC D3 _) D3 _ = upd HC D3 _
      rw [upd_upd, take_map _ hi]
    rw [List.take_length, mapF] at e
    have hB3 := upd_got e.symm
    have u3 := upd_stay e.symm hD3
    refine ⟨lC, D3, _, _, rfl, rfl, u3 _ _ hlC, hB3, (by show 38 ≤ sizeLine; decide), fun lE hE => ?_⟩
    generalize hEE : upd _ lE _ = HE
    have hlE := upd_got hEE
    have sE := upd_stay hEE hE
    have uE := (uC.trans u3).trans sE
    have rE := rO.same uE
    obtain ⟨dxE, eE⟩ := id rE
    refine ⟨_, rfl, a, dxE, _, rfl, eE, a, t, b, rfl, rE, _, rfl, _, rfl, a, dxE, _, rfl, eE, a, t, b, rfl, rE, _, rfl, (by show 2 ≤ sizeLine; decide), fun lF hF => ?_⟩
    generalize hEF : upd HE lF _ = HF
    have hlF := upd_got hEF
    have sF := upd_stay hEF hF
    refine ⟨lE, lF, _, _, rfl, rfl, sF _ _ hlE, hlF, (by show 40 ≤ sizeLine; decide), fun lS hS => ?_⟩
    generalize hES : upd HF lS _ = HS
    have hlS := upd_got hES
    have sS' := upd_stay hES hS
    have hlDS := ((uE.trans sF).trans sS') _ _ hlDO
    refine ⟨_, rfl, (by show 1 ≤ sizeLine; decide), fun m1 hm1 => ?_⟩
    generalize hX1 : upd HS m1 _ = J1
    have g1 := upd_got hX1
    have z1 := upd_stay hX1 hm1
    refine ⟨m1, 9, _, rfl, rfl, g1, (by decide), (by decide), (by show 1 * (9 : Int).toNat ≤ sizeLine; decide), fun m2 hm2 => ?_⟩
    generalize hX2 : upd J1 m2 _ = J2
    have g2 := upd_got hX2
    have z2 := upd_stay hX2 hm2
    refine ⟨lD, m2, _, _, rfl, rfl, (z1.trans z2) _ _ hlDS, g2, (by show 20 ≤ sizeLine; decide), fun m3 hm3 => ?_⟩
    generalize hX3 : upd J2 m3 _ = J3
    have g3 := upd_got hX3
    have z3 := upd_stay hX3 hm3
    refine ⟨(by show 1 ≤ sizeLine; decide), fun m4 hm4 => ?_⟩
    generalize hX4 : upd J3 m4 _ = J4
    have g4 := upd_got hX4
    have z4 := upd_stay hX4 hm4
    refine ⟨m4, 9, _, rfl, rfl, g4, (by decide), (by decide), (by show 1 * (9 : Int).toNat ≤ sizeLine; decide), fun m5 hm5 => ?_⟩
    generalize hX5 : upd J4 m5 _ = J5
    have g5 := upd_got hX5
    have z5 := upd_stay hX5 hm5
    refine ⟨m3, m5, _, _, rfl, rfl, (z4.trans z5) _ _ g3, g5, (by show 29 ≤ sizeLine; decide), fun m6 hm6 => ?_⟩
    generalize hX6 : upd J5 m6 _ = J6
    have g6 := upd_got hX6
    have z6 := upd_stay hX6 hm6
    refine ⟨(by show 1 ≤ sizeLine; decide), fun m7 hm7 => ?_⟩
    generalize hX7 : upd J6 m7 _ = J7
    have g7 := upd_got hX7
    have z7 := upd_stay hX7 hm7
    refine ⟨m7, 9, _, rfl, rfl, g7, (by decide), (by decide), (by show 1 * (9 : Int).toNat ≤ sizeLine; decide), fun m8 hm8 => ?_⟩
    generalize hX8 : upd J7 m8 _ = J8
    have g8 := upd_got hX8
    have z8 := upd_stay hX8 hm8
    refine ⟨m6, m8, _, _, rfl, rfl, (z7.trans z8) _ _ g6, g8, (by show 38 ≤ sizeLine; decide), fun m9 hm9 => ?_⟩
    generalize hX9 : upd J8 m9 _ = J9
    have g9 := upd_got hX9
    have z9 := upd_stay hX9 hm9
    refine ⟨_, rfl, rfl, _, rfl, rfl, (by show 2 ≤ sizeLine; decide), fun mA hmA => ?_⟩
    generalize hXA : upd J9 mA _ = JA
    have gA := upd_got hXA
    have zA := upd_stay hXA hmA
    refine ⟨m9, mA, _, _, rfl, rfl, zA _ _ g9, gA, (by show 40 ≤ sizeLine; decide), fun mB hmB => ?_⟩
    generalize hXB : upd JA mB _ = JB
    have gB := upd_got hXB
    have zB := upd_stay hXB hmB
    have zz := (((((((((z1.trans z2).trans z3).trans z4).trans z5).trans z6).trans z7).trans z8).trans z9).trans zA).trans zB
    have hs := zz _ _ hlS
    have near' : (decide (nt (t + 1) b = t) && decide (nb (t + 1) b = b)) = false := by
      rw [← near]
      congr 1
      · exact decide_eq_decide.mpr eq_comm
      · exact decide_eq_decide.mpr eq_comm
    have f1 : (decide (t = t) && decide (b = b)) = true := by simp
    have e1 : eqO (.int t) t b = decide (b = 1) := by show (decide (b = 1) && decide (t = t)) = _; simp
    have e2 : eqO ((fun i j => V.int (i + j)) t 1) t b = false := by show (decide (b = 1) && decide (t = t + 1)) = false; rw [decide_eq_false (show ¬ t = t + 1 by omega), Bool.and_false]
    have e3 : eqO ((fun i j => V.int (i - j)) t 1) t b = false := by show (decide (b = 1) && decide (t = t - 1)) = false; rw [decide_eq_false (show ¬ t = t - 1 by omega), Bool.and_false]
    rw [f1, near, near', e1, e2, e3] at hs
    have hs' : JB lS = some (.lst ((DB (decide (b = 1)) (t != 0)).map V.bl)) := hs
    have n1 : (!decide (V.int t = V.int 0)) = (t != 0) := by rw [dint]; rfl
    have n2 : decide (V.int t = V.int 0) = !(t != 0) := by rw [← n1, Bool.not_not]
    have n3 : decide (V.int b = V.int 1) = decide (b = 1) := dint
    rw [n1, n2, n3] at gB
    have gB' : JB mB = some (.lst ((DB (decide (b = 1)) (t != 0)).map V.bl)) := gB
    refine ⟨_, rfl, lS, _, _, rfl, hs', flat_bls _, DB_len _ _, _, rfl, mB, _, _, rfl, gB', flat_bls _, DB_len _ _, rfl, ?_⟩
    show Q (.bl (decide (V.str _ = V.str _))) _
    rw [decide_eq_true rfl]
    exact q _ ((((ssO.trans uE).trans sF).trans sS').trans zz)
end
end T02

namespace T02
open PySem PySem.Spec PyProof.Rows L2 SF
abbrev sRight : Stmt := top 32
/-! ### texts whose signs are signs -/
def Sm (x : Str) : Prop := ∀ c ∈ x.cps.toList, c < 16 ^ 8
theorem sm_of (s : String) : Sm (Str.ofString s) := by
  intro c hc
  rw [Str.ofString_eq_toList] at hc
  simp only [List.mem_map] at hc
  obtain ⟨ch, _, rfl⟩ := hc
  have hc : ch.val.toNat < 1114112 := by
    have h := ch.valid
    simp only [UInt32.isValidChar, Nat.isValidChar] at h
    omega
  exact Nat.lt_of_lt_of_le hc (by decide)
theorem sm_app {x y : Str} (a : Sm x) (b : Sm y) : Sm (x ++ y) := by
  intro c hc
  rw [Str.cps_append] at hc
  simp only [Array.toList_append, List.mem_append] at hc
  rcases hc with h | h
  · exact a c h
  · exact b c h
theorem sm_empty : Sm Str.empty := fun c h => by cases h
theorem rstr_sm (t b : Int) : Sm (rstr t b) := by
  unfold rstr
  split
  · exact sm_of _
  · exact sm_app (sm_app (sm_app sm_empty (sm_of _)) (sm_of _)) (sm_of _)
theorem rrepr_sm (t b : Int) : Sm (rrepr t b) := sm_app (sm_app (sm_app (sm_app (sm_app sm_empty (sm_of _)) (sm_of _)) (sm_of _)) (sm_of _)) (sm_of _)
theorem rstr_len {t b : Int} (lt : LE t) (lb : LE b) : (rstr t b).length ≤ 4000 := by
  have x1 : (Str.ofString (toString t)).length ≤ 1921 := tx_len lt
  have x2 : (Str.ofString (toString b)).length ≤ 1921 := tx_len lb
  have s0 : Str.empty.length = 0 := rfl
  have s1 : ("/" : Str).length = 1 := rfl
  unfold rstr
  split
  · exact Nat.le_trans x1 (by decide)
  · simp only [Str.length_append, tx]; omega
theorem rrepr_len {t b : Int} (lt : LE t) (lb : LE b) : (rrepr t b).length ≤ 4000 := by
  have x1 : (Str.ofString (toString t)).length ≤ 1921 := tx_len lt
  have x2 : (Str.ofString (toString b)).length ≤ 1921 := tx_len lb
  have s0 : Str.empty.length = 0 := rfl
  have s1 : ("Ratio(" : Str).length = 6 := rfl
  have s2 : (", " : Str).length = 2 := rfl
  have s3 : (")" : Str).length = 1 := rfl
  unfold rrepr
  simp only [Str.length_append, tx]; omega
/-- the six things that are shown -/
def six (t b : Int) : List V := [.int t, .int b, .str (rstr t b), .str (rrepr t b), .int t, .int b]
def sixD (t b : Int) : List PyData := [.int t, .int b, .str (rstr t b), .str (rrepr t b), .int t, .int b]
theorem six_flat {t b : Int} (lt : LE t) (lb : LE b) : flatDs (six t b) = some (sixD t b) := by
  have e1 : flatD (.int t) = some (.int t) := if_pos lt.log
  have e2 : flatD (.int b) = some (.int b) := if_pos lb.log
  have e3 : flatD (.str (rstr t b)) = some (.str (rstr t b)) := rfl
  have e4 : flatD (.str (rrepr t b)) = some (.str (rrepr t b)) := rfl
  simp only [six, sixD, flatDs, e1, e2, e3, e4]
theorem six_len {t b : Int} (lt : LE t) (lb : LE b) : (PyData.list (sixD t b)).shown.length ≤ sizeLine := by
  have x1 : (Str.ofString (toString t)).length ≤ 1921 := tx_len lt
  have x2 : (Str.ofString (toString b)).length ≤ 1921 := tx_len lb
  have x3 := StrLaws.reprText_len (rstr t b) (rstr_sm t b)
  have x4 := StrLaws.reprText_len (rrepr t b) (rrepr_sm t b)
  have x5 := rstr_len lt lb
  have x6 := rrepr_len lt lb
  have h := listText_len_le (PyData.shownAll (sixD t b))
  have l : 1000000 ≤ sizeLine := by decide
  show (listText (PyData.shownAll (sixD t b))).length ≤ sizeLine
  refine Nat.le_trans h ?_
  simp only [sixD, PyData.shownAll, PyData.shown, List.map_cons, List.map_nil, List.sum_cons, List.sum_nil, List.length_cons, List.length_nil]
  omega
section
variable {P : Program} {w : World} {K : PySem.W.Frag} {mg : Str → Option Value} {base : Heap} {C : Addr} {H H' : Hp}
theorem But.of {a : Addr} (s : Same H H') : But a H H' := fun b o _ e => s b o e
theorem SrcAt.same {a : Addr} (h : SrcAt H a) (s : Same H H') : SrcAt H' a := let ⟨x, y, z, e⟩ := h; ⟨x, y, z, s _ _ e⟩
theorem scRight : FnScope ["_law_source_here", "_law_upper", "_law_lower", "_law_over", "_law_under", "_law_some", "_law_shown", "_law_due", "_law_made"] ["_law_source_here"] (defScope sRight) := ⟨rfl, rfl, rfl, by decide +kernel, rfl, by decide +kernel, by decide +kernel⟩
def spRight : Sp := fun vs H Q _ => ∃ a : Addr, vs = [.ref a] ∧ SrcAt H a ∧ ∀ H', SrcAt H' a → But a H H' → Q (.bl true) H'
theorem ok_right {f fP fL fQ : Addr} {fd fdP fdL fdQ : FuncData} (F : Fun K "_law_right" "_law_right" sRight f fd) (R : RatT P w K mg base C)
    (FP : Fun K "_law_parts" "_law_parts" sParts fP fdP) (GP : FnOk P w K mg base CX0 3 fP fdP ["_law_source_here"] spParts) (bP : Binds K fdP ["_law_source_here"] []) (gP : mg "_law_parts" = some (.ref fP))
    (FL : Fun K "_law_lowest" "_law_lowest" sLowest fL fdL) (GL : FnOk P w K mg base CX0 3 fL fdL ["_law_upper", "_law_lower"] spLowest) (bL : Binds K fdL ["_law_upper", "_law_lower"] []) (gL : mg "_law_lowest" = some (.ref fL))
    (FQ : Fun K "_law_equal_right" "_law_equal_right" sEqR fQ fdQ) (GQ : FnG P w K mg base CX0 5 fQ fdQ ["_law_made", "_law_due"] (spEqR C)) (bQ : Binds K fdQ ["_law_made", "_law_due"] []) (gQ : mg "_law_equal_right" = some (.ref fQ)) :
    FnG P w K mg base CX0 6 f fd ["_law_source_here"] spRight := by
  refine okG F scRight (fun vs H Q E h => ?_) (fun cdv A outer s H vs Q E hgd hr h => ?_)
  · obtain ⟨a, rfl, _⟩ := h
    rfl
  · obtain ⟨a, rfl, hs, q⟩ := h
    have T := R.rc
    have hr3 : Room 3 (A.deeper (envOfC "_law_right" (defScope sRight) s.heap.objs.size f cdv)) := hr.mono (by decide)
    have hr2 : Room 2 (A.deeper (envOfC "_law_right" (defScope sRight) s.heap.objs.size f cdv)) := hr.mono (by decide)
    refine ⟨_, (pss_cons (ps_asg (pe_call GP hr3 (by rfl) gP FP.kp bP .nil pass0 (pa_cons (pv 0) pa_nil)) (pg_tup rfl (pgs_cons (pg_name (i := 1) scRight.nd rfl (.inl rfl)) (pgs_cons (pg_name (i := 2) scRight.nd rfl (.inl rfl)) pgs_nil))))
      (pss_cons (ps_asg (pe_call GL hr3 (by rfl) gL FL.kp bL .nil pass0 (pa_cons (pv 1) (pa_cons (pv 2) pa_nil))) (pg_tup rfl (pgs_cons (pg_name (i := 3) scRight.nd rfl (.inl rfl)) (pgs_cons (pg_name (i := 4) scRight.nd rfl (.inl rfl)) pgs_nil))))
      (pss_cons (ps_set (i := 5) scRight.nd rfl (.inl rfl) (pe_lst (pa_cons (pe_make R.M R.GI hr3 (by rfl) R.rc.mgC R.bI .nil pass0 (pa_cons (pv 1) (pa_cons (pv 2) pa_nil))) (pa_cons (pe_makeK0 R.M R.GI hr3 (by rfl) R.rc.mgC R.k2 pass0 (pk_cons (pv 2) (pk_cons (pv 1) pk_nil))) (pa_cons (pe_make R.M R.GI hr3 (by rfl) R.rc.mgC R.bI .nil pass0 (pa_cons (pe_un un_neg (pv 1)) (pa_cons (pe_un un_neg (pv 2)) pa_nil))) pa_nil)))))
      (pss_cons (ps_if (pt_cmpR op_eq (pv 4) pe_int (nomark _)) (pss_one (ps_set (i := 5) scRight.nd rfl (.inl rfl) (pe_op op_cat (pv 5) (pe_lst (pa_cons (pe_make R.M R.GI hr3 (by rfl) R.rc.mgC R.b1 R.v1 pass0 (pa_cons (pv 3) pa_nil)) (pa_cons (pe_makeK0 R.M R.GI hr3 (by rfl) R.rc.mgC R.k3 pass0 (pk_cons (pv 3) pk_nil)) pa_nil)))))) pss_nil)
      (pss_cons (ps_set (i := 6) scRight.nd rfl (.inl rfl) (pe_ifExp (pt_cmpR op_eq (pv 4) pe_int (nomark _)) (pe_callTy call_str_int (by rfl) R.rc.str_ (by decide +kernel) (pa_cons (pv 3) pa_nil)) (pe_op op_add_str (pe_op op_add_str (pe_callTy call_str_int (by rfl) R.rc.str_ (by decide +kernel) (pa_cons (pv 3) pa_nil)) pe_str) (pe_callTy call_str_int (by rfl) R.rc.str_ (by decide +kernel) (pa_cons (pv 4) pa_nil)))))
      (pss_cons (ps_set (i := 7) scRight.nd rfl (.inl rfl) (pe_lst (pa_cons (pv 3) (pa_cons (pv 4) (pa_cons (pv 6) (pa_cons (pe_op op_add_str (pe_op op_add_str (pe_op op_add_str (pe_op op_add_str pe_str (pe_callTy call_str_int (by rfl) R.rc.str_ (by decide +kernel) (pa_cons (pv 3) pa_nil))) pe_str) (pe_callTy call_str_int (by rfl) R.rc.str_ (by decide +kernel) (pa_cons (pv 4) pa_nil))) pe_str) (pa_cons (pv 3) (pa_cons (pv 4) pa_nil))))))))
      (pss_cons (ps_for PassesOwn.never rfl (pi_list (pv 5)) (pg_name (i := 8) scRight.nd rfl (.inl rfl)) (pss_one (ps_if (pt_cmpR op_ne (pe_callB (call_reprL hgd hr) (by rfl) R.repr_ (by decide +kernel) (pa_cons (pe_lst (pa_cons (pe_prop (pv 8) R.rc.cl R.PT R.GT hr2 R.bT .nil pass0 rfl) (pa_cons (pe_prop (pv 8) R.rc.cl R.PO R.GO hr2 R.bO .nil pass0 rfl) (pa_cons (pe_callTy (call_strOwn R.hS R.eSf R.GS R.bS hr3 pass0) (by rfl) R.rc.str_ (by decide +kernel) (pa_cons (pv 8) pa_nil)) (pa_cons (pe_callB (call_reprOwn R.hR R.eRf R.GR R.bR hr2 pass0) (by rfl) R.repr_ (by decide +kernel) (pa_cons (pv 8) pa_nil)) (pa_cons (pe_prop (pv 8) R.rc.cl R.PT R.GT hr2 R.bT .nil pass0 rfl) (pa_cons (pe_prop (pv 8) R.rc.cl R.PO R.GO hr2 R.bO .nil pass0 rfl) pa_nil))))))) pa_nil)) (pe_callB (call_reprL hgd hr) (by rfl) R.repr_ (by decide +kernel) (pa_cons (pv 7) pa_nil)) (nomark _)) (pss_one (ps_ret pe_bl)) pss_nil)))
      (pss_one (ps_ret (pe_callG GQ hgd hr (by rfl) gQ FQ.kp bQ .nil pass0 (pa_cons (pe_ix ix_list (pv 5) pe_int (fun _ _ => rfl)) (pa_cons (pe_tup (pa_cons (pv 3) (pa_cons (pv 4) pa_nil))) pa_nil)))))))))))), ?_⟩
    refine ⟨_, rfl, a, rfl, hs, fun u l p H1 u0 u1 l0 l1 ln hp s1 k1 => ?_⟩
    have lu : LE u := le_of_big (by omega) (by omega)
    have ll : LE l := le_of_big (by omega) (by omega)
    refine ⟨p, _, rfl, SqT.of hp, rfl, _, _, rfl, _, _, rfl, rfl, ?_⟩
    refine ⟨_, rfl, _, rfl, u, l, rfl, ln, ll, fun p2 hp2 => ?_⟩
    generalize hE2 : upd H1 p2 _ = H2
    have g2 := upd_got hE2
    have z2 := upd_stay hE2 hp2
    refine ⟨p2, _, rfl, SqT.of g2, rfl, _, _, rfl, _, _, rfl, rfl, ?_⟩
    have low := low_n (u := u) ln
    have le := n_le (u := u) ln
    generalize ho : nt u l = o at *
    generalize hu : nb u l = v at *
    have lo : LE o := Nat.lt_of_le_of_lt le.1 lu
    have lv : LE v := Nat.lt_of_le_of_lt le.2 ll
    refine ⟨_, rfl, _, rfl, ?_⟩
    intro x1 d1 hx1 hd1 hn1
    refine mk_fin hx1 hd1 hn1 ln ll fun H3 z3 r1 => ⟨rfl, ?_⟩
    refine ⟨_, rfl, _, rfl, rfl, rfl, ?_⟩
    intro x2 d2 hx2 hd2 hn2
    refine mk_fin hx2 hd2 hn2 ln ll fun H4 z4 r2 => ⟨rfl, ?_⟩
    refine ⟨_, rfl, u, rfl, _, rfl, l, rfl, ?_⟩
    intro x3 d3 hx3 hd3 hn3
    refine mk_fin hx3 hd3 hn3 (by omega) (by show (-l).natAbs < 2 ^ 200; rw [Int.natAbs_neg]; exact ll) fun H5 z5 r3 => ⟨rfl, ?_⟩
    rw [(n_neg (u := u) ln).1, (n_neg (u := u) ln).2] at r3
    rw [ho, hu] at r1 r2 r3
    refine ⟨(by show 3 ≤ sizeLine; decide), fun lS hlS => ?_⟩
    generalize hE6 : upd H5 lS _ = H6
    have g6 := upd_got hE6
    have z6 := upd_stay hE6 hlS
    have y1 : (Str.ofString (toString o)).length ≤ 1921 := tx_len lo
    have y2 : (Str.ofString (toString v)).length ≤ 1921 := tx_len lv
    have l5 := line5
    have s1' : ("/" : Str).length = 1 := rfl
    have s6' : ("Ratio(" : Str).length = 6 := rfl
    have s2' : (", " : Str).length = 2 := rfl
    have s3' : (")" : Str).length = 1 := rfl
    refine ⟨_, rfl, rfl, _, rfl, ?_⟩
    refine ite2 (fun hv => ?_) (fun hv => ?_)
    · have ev : v = 1 := V.int.inj (of_decide_eq_true hv)
      have low1 : Low o 1 := by rw [← ev]; exact low
      refine ⟨_, rfl, _, rfl, ?_⟩
      intro x4 d4 hx4 hd4 hn4
      refine mk_fin (t := o) (b := 1) hx4 hd4 hn4 (by decide) (by show (1 : Int).natAbs < 2 ^ 200; decide) fun H4' zw4 r4 => ⟨rfl, ?_⟩
      rw [low1.nt, low1.nb, ← ev] at r4
      refine ⟨_, rfl, rfl, rfl, ?_⟩
      intro x5 d5 hx5 hd5 hn5
      refine mk_fin (t := o) (b := 1) hx5 hd5 hn5 (by decide) (by show (1 : Int).natAbs < 2 ^ 200; decide) fun H5' zw5 r5 => ⟨rfl, ?_⟩
      rw [low1.nt, low1.nb, ← ev] at r5
      refine ⟨(by show 2 ≤ sizeLine; decide), fun l2 hl2 => ?_⟩
      generalize hE7 : upd H5' l2 _ = H7
      have g7 := upd_got hE7
      have zw6 := upd_stay hE7 hl2
      refine ⟨lS, l2, _, _, rfl, rfl, ((zw4.trans zw5).trans zw6) _ _ g6, g7, (by show 5 ≤ sizeLine; decide), fun lX hlX => ?_⟩
      generalize hE8 : upd H7 lX _ = H8
      have g8 := upd_got hE8
      have zw7 := upd_stay hE8 hlX
      have zw := ((zw4.trans zw5).trans zw6).trans zw7

      have zL : Same H2 H8 := ((((z3.trans z4).trans z5).trans z6).trans zw)
      have hx1L : RatH C H8 x1 o v := ((((r1.same z4).same z5).same z6).same zw)
      have hall : ∀ y ∈ ([V.ref x1, V.ref x2, V.ref x3] ++ [V.ref x4, V.ref x5]), ∃ ak, y = V.ref ak ∧ RatH C H8 ak o v := by
        intro y hy
        simp only [List.mem_cons, List.not_mem_nil, or_false, List.cons_append, List.nil_append] at hy
        rcases hy with rfl | rfl | rfl | rfl | rfl
        · exact ⟨_, rfl, ((((r1.same z4).same z5).same z6).same zw)⟩
        · exact ⟨_, rfl, (((r2.same z5).same z6).same zw)⟩
        · exact ⟨_, rfl, ((r3.same z6).same zw)⟩
        · exact ⟨_, rfl, (r4.same (((zw5.trans zw6)).trans zw7))⟩
        · exact ⟨_, rfl, (r5.same (zw6.trans zw7))⟩
      refine ⟨_, rfl, rfl, _, rfl, ?_⟩
      refine ite2 (fun hw => ?_) (fun hw => absurd hv hw)
      refine ⟨_, rfl, o, rfl, lo.log, ?_⟩
      have esh : Str.ofString (toString o) = rstr o v := (if_pos (V.int.inj (of_decide_eq_true hv))).symm
      rw [esh]
      refine ⟨_, rfl, _, rfl, _, rfl, _, rfl, o, rfl, lo.log, _, _, rfl, rfl, (by rw [s6']; omega), _, _, rfl, rfl, (by rw [Str.length_append, s6', s2']; omega), _, rfl, v, rfl, lv.log, _, _, rfl, rfl, (by rw [Str.length_append, Str.length_append, s6', s2']; omega), _, _, rfl, rfl, (by rw [Str.length_append, Str.length_append, Str.length_append, s6', s2', s3']; omega), _, rfl, _, rfl, (by show 6 ≤ sizeLine; decide), fun lD hlD => ?_⟩
      have erp : (((("Ratio(" : Str) ++ Str.ofString (toString o)) ++ (", " : Str)) ++ Str.ofString (toString v)) ++ (")" : Str) = rrepr o v := by
        unfold rrepr
        rw [Str.empty_append]
      rw [erp]
      generalize hED : upd H8 lD _ = HD
      have gD : HD lD = some (.lst (six o v)) := upd_got hED
      have zD := upd_stay hED hlD
      have gX := zD _ _ g8
      refine ⟨_, rfl, lX, rfl, ⟨_, SqL.of gX⟩, for_list (K := K) (a := lX) (xs := ([V.ref x1, V.ref x2, V.ref x3] ++ [V.ref x4, V.ref x5])) (fun i σ H' => Same HD H' ∧ ∃ w, σ = [some (.ref a), some (.int u), some (.int l), some (.int o), some (.int v), some (.ref lX), some (.str (rstr o v)), some (.ref lD), w]) ⟨Same.refl _, none, rfl⟩ (fun i σ H' _ ⟨e, _⟩ => SqL.of (e _ _ gX)) ?_ ?_⟩
      · rintro i y σ H' hi ⟨zH, w', rfl⟩
        obtain ⟨ak, rfl, rk⟩ := hall y (List.mem_of_getElem? hi)
        have rk := (rk.same zD).same zH
        obtain ⟨dk, ek⟩ := id rk
        refine ⟨_, rfl, ak, dk, _, rfl, ek, ak, dk, _, _, rfl, ek, rf_top o v, _, rfl, ak, dk, _, rfl, ek, ak, dk, _, _, rfl, ek, rf_bot o v, _, rfl, ak, dk, _, rfl, ek, ak, o, v, rfl, rk, lo, lv, _, rfl, _, rfl, ak, dk, _, rfl, ek, ak, o, v, rfl, rk, lo, lv, _, rfl,
          _, rfl, ak, dk, _, rfl, ek, ak, dk, _, _, rfl, ek, rf_top o v, _, rfl, ak, dk, _, rfl, ek, ak, dk, _, _, rfl, ek, rf_bot o v, (by show 6 ≤ sizeLine; decide), fun lq hq => ?_⟩
        generalize hEq : upd H' lq _ = Hq
        have gq : Hq lq = some (.lst (six o v)) := upd_got hEq
        have zq := upd_stay hEq hq
        refine ⟨lq, _, _, rfl, gq, six_flat lo lv, six_len lo lv, _, rfl, lD, _, _, rfl, (zH.trans zq) _ _ gD, six_flat lo lv, six_len lo lv, rfl, _, rfl, iteNS rfl ?_⟩
        exact ⟨zH.trans zq, _, rfl⟩
      · rintro σ H' ⟨zH, w', rfl⟩
        refine ⟨_, rfl, lX, _, 0, .ref x1, rfl, rfl, SqL.of (zH _ _ gX), rfl, _, rfl, _, rfl, (by show 2 ≤ sizeLine; decide), fun pt hpt => ?_⟩
        generalize hEt : upd H' pt _ = Ht
        have gt' := upd_got hEt
        have zt := upd_stay hEt hpt
        have zAll := (((z2.trans zL).trans zD).trans zH).trans zt
        refine ⟨x1, pt, o, v, rfl, (((hx1L.same zD).same zH).same zt), gt', low, by omega, by omega, by omega, fun HZ zz => ?_⟩
        exact q HZ (s1.same (zAll.trans zz)) (k1.trans (But.of (zAll.trans zz)))
    · skip

      have zL : Same H2 H6 := (((z3.trans z4).trans z5).trans z6)
      have hx1L : RatH C H6 x1 o v := (((r1.same z4).same z5).same z6)
      have hall : ∀ y ∈ [V.ref x1, V.ref x2, V.ref x3], ∃ ak, y = V.ref ak ∧ RatH C H6 ak o v := by
        intro y hy
        simp only [List.mem_cons, List.not_mem_nil, or_false, List.cons_append, List.nil_append] at hy
        rcases hy with rfl | rfl | rfl
        · exact ⟨_, rfl, (((r1.same z4).same z5).same z6)⟩
        · exact ⟨_, rfl, ((r2.same z5).same z6)⟩
        · exact ⟨_, rfl, (r3.same z6)⟩
      refine ⟨_, rfl, rfl, _, rfl, ?_⟩
      refine ite2 (fun hw => absurd hw hv) (fun hw => ?_)
      refine ⟨_, rfl, o, rfl, lo.log, _, _, rfl, rfl, (by rw [s1']; omega), _, rfl, v, rfl, lv.log, _, _, rfl, rfl, (by rw [Str.length_append, s1']; omega), ?_⟩
      have esh : (Str.ofString (toString o) ++ ("/" : Str)) ++ Str.ofString (toString v) = rstr o v := by
        have e0 : rstr o v = ((Str.empty ++ tx o) ++ ("/" : Str)) ++ tx v := if_neg (fun z => hv (decide_eq_true (congrArg V.int z)))
        rw [e0, Str.empty_append]
      rw [esh]
      refine ⟨_, rfl, _, rfl, _, rfl, _, rfl, o, rfl, lo.log, _, _, rfl, rfl, (by rw [s6']; omega), _, _, rfl, rfl, (by rw [Str.length_append, s6', s2']; omega), _, rfl, v, rfl, lv.log, _, _, rfl, rfl, (by rw [Str.length_append, Str.length_append, s6', s2']; omega), _, _, rfl, rfl, (by rw [Str.length_append, Str.length_append, Str.length_append, s6', s2', s3']; omega), _, rfl, _, rfl, (by show 6 ≤ sizeLine; decide), fun lD hlD => ?_⟩
      have erp : (((("Ratio(" : Str) ++ Str.ofString (toString o)) ++ (", " : Str)) ++ Str.ofString (toString v)) ++ (")" : Str) = rrepr o v := by
        unfold rrepr
        rw [Str.empty_append]
      rw [erp]
      generalize hED : upd H6 lD _ = HD
      have gD : HD lD = some (.lst (six o v)) := upd_got hED
      have zD := upd_stay hED hlD
      have gX := zD _ _ g6
      refine ⟨_, rfl, lS, rfl, ⟨_, SqL.of gX⟩, for_list (K := K) (a := lS) (xs := [V.ref x1, V.ref x2, V.ref x3]) (fun i σ H' => Same HD H' ∧ ∃ w, σ = [some (.ref a), some (.int u), some (.int l), some (.int o), some (.int v), some (.ref lS), some (.str (rstr o v)), some (.ref lD), w]) ⟨Same.refl _, none, rfl⟩ (fun i σ H' _ ⟨e, _⟩ => SqL.of (e _ _ gX)) ?_ ?_⟩
      · rintro i y σ H' hi ⟨zH, w', rfl⟩
        obtain ⟨ak, rfl, rk⟩ := hall y (List.mem_of_getElem? hi)
        have rk := (rk.same zD).same zH
        obtain ⟨dk, ek⟩ := id rk
        refine ⟨_, rfl, ak, dk, _, rfl, ek, ak, dk, _, _, rfl, ek, rf_top o v, _, rfl, ak, dk, _, rfl, ek, ak, dk, _, _, rfl, ek, rf_bot o v, _, rfl, ak, dk, _, rfl, ek, ak, o, v, rfl, rk, lo, lv, _, rfl, _, rfl, ak, dk, _, rfl, ek, ak, o, v, rfl, rk, lo, lv, _, rfl,
          _, rfl, ak, dk, _, rfl, ek, ak, dk, _, _, rfl, ek, rf_top o v, _, rfl, ak, dk, _, rfl, ek, ak, dk, _, _, rfl, ek, rf_bot o v, (by show 6 ≤ sizeLine; decide), fun lq hq => ?_⟩
        generalize hEq : upd H' lq _ = Hq
        have gq : Hq lq = some (.lst (six o v)) := upd_got hEq
        have zq := upd_stay hEq hq
        refine ⟨lq, _, _, rfl, gq, six_flat lo lv, six_len lo lv, _, rfl, lD, _, _, rfl, (zH.trans zq) _ _ gD, six_flat lo lv, six_len lo lv, rfl, _, rfl, iteNS rfl ?_⟩
        exact ⟨zH.trans zq, _, rfl⟩
      · rintro σ H' ⟨zH, w', rfl⟩
        refine ⟨_, rfl, lS, _, 0, .ref x1, rfl, rfl, SqL.of (zH _ _ gX), rfl, _, rfl, _, rfl, (by show 2 ≤ sizeLine; decide), fun pt hpt => ?_⟩
        generalize hEt : upd H' pt _ = Ht
        have gt' := upd_got hEt
        have zt := upd_stay hEt hpt
        have zAll := (((z2.trans zL).trans zD).trans zH).trans zt
        refine ⟨x1, pt, o, v, rfl, (((hx1L.same zD).same zH).same zt), gt', low, by omega, by omega, by omega, fun HZ zz => ?_⟩
        exact q HZ (s1.same (zAll.trans zz)) (k1.trans (But.of (zAll.trans zz)))
end
end T02

namespace T02
open PySem PySem.Spec PyProof.Rows L2 SF
abbrev sLaw : Stmt := top 33
structure Blt2 (mg : Str → Option Value) : Prop extends Blt mg where
  range : mg "range" = none
  max : mg "max" = none
  min : mg "min" = none
  all : mg "all" = none
theorem sameD {t b : Int} {n : Int × Int} (h : (nt t b, nb t b) = n) : nt t b = n.1 ∧ nb t b = n.2 := by rw [← h]; exact ⟨rfl, rfl⟩
section
variable {P : Program} {w : World} {K : PySem.W.Frag} {mg : Str → Option Value} {base : Heap} {C : Addr} {H H' : Hp}
theorem scLaw : FnScope ["_law_cells", "_law_seen", "_law_k", "_law_source_here", "_law_turn"] ["_law_cells"] (defScope sLaw) := ⟨rfl, rfl, rfl, by decide +kernel, rfl, by decide +kernel, by decide +kernel⟩
def spLaw (K : PySem.W.Frag) : Sp := fun vs H Q _ => ∃ (a : Addr) (ns : List Int), vs = [.ref a] ∧ SqL K H a (ns.map V.int) ∧ ns.length ≤ 63 ∧ ∀ H', Q (.bl true) H'
theorem ok_law {f fS fC fR : Addr} {fd fdS fdC fdR : FuncData} (F : Fun K "law" "law" sLaw f fd) (R : RatT P w K mg base C) (T : Blt2 mg)
    (FS : Fun K "_law_source" "_law_source" sSource fS fdS) (bS : Binds K fdS ["_law_cell_here"] []) (gS : mg "_law_source" = some (.ref fS))
    (FC : Fun K "_law_cell" "_law_cell" sCell fC fdC) (bC : Binds K fdC ["_law_cells", "_law_k"] []) (gC : mg "_law_cell" = some (.ref fC))
    (FR : Fun K "_law_right" "_law_right" sRight fR fdR) (GR : FnG P w K mg base CX0 6 fR fdR ["_law_source_here"] spRight) (bR : Binds K fdR ["_law_source_here"] []) (gR : mg "_law_right" = some (.ref fR)) :
    FnG P w K mg base CX0 7 f fd ["_law_cells"] (spLaw K) := by
  have GS : FnOk P w K mg base CX0 1 fS fdS ["_law_cell_here"] spSource := ok_source FS T.toBlt
  have GC : FnOk P w K mg base CX0 1 fC fdC ["_law_cells", "_law_k"] (spCell K) := ok_cell FC T.toBlt
  refine okG F scLaw (fun vs H Q E h => ?_) (fun cdv A outer s H vs Q E hgd hr h => ?_)
  · obtain ⟨a, ns, rfl, _⟩ := h
    rfl
  · obtain ⟨a, ns, rfl, hS, hlen, q⟩ := h
    have hr3 : Room 3 (A.deeper (envOfC "law" (defScope sLaw) s.heap.objs.size f cdv)) := hr.mono (by decide)
    have hr2 : Room 2 (A.deeper (envOfC "law" (defScope sLaw) s.heap.objs.size f cdv)) := hr.mono (by decide)
    have hr1 : Room 1 (A.deeper (envOfC "law" (defScope sLaw) s.heap.objs.size f cdv)) := hr.mono (by decide)
    refine ⟨_, (pss_cons (ps_set (i := 1) scLaw.nd rfl (.inl rfl) (pe_lst (pa_cons (pe_callB (call_reprOwn R.hR R.eRf R.GR R.bR hr2 pass0) (by rfl) R.repr_ (by decide +kernel) (pa_cons (pe_make R.M R.GI hr3 (by rfl) R.rc.mgC R.bI .nil pass0 (pa_cons pe_int (pa_cons (pe_un un_neg pe_int) pa_nil))) pa_nil)) (pa_cons (pe_callB (call_reprOwn R.hR R.eRf R.GR R.bR hr2 pass0) (by rfl) R.repr_ (by decide +kernel) (pa_cons (pe_make R.M R.GI hr3 (by rfl) R.rc.mgC R.bI .nil pass0 (pa_cons pe_int (pa_cons (pe_un un_neg pe_int) pa_nil))) pa_nil)) (pa_cons (pe_callB (call_reprOwn R.hR R.eRf R.GR R.bR hr2 pass0) (by rfl) R.repr_ (by decide +kernel) (pa_cons (pe_make R.M R.GI hr3 (by rfl) R.rc.mgC R.b1 R.v1 pass0 (pa_cons (pe_un un_neg pe_int) pa_nil)) pa_nil)) (pa_cons (pe_callTy (call_strOwn R.hS R.eSf R.GS R.bS hr3 pass0) (by rfl) R.rc.str_ (by decide +kernel) (pa_cons (pe_make R.M R.GI hr3 (by rfl) R.rc.mgC R.bI .nil pass0 (pa_cons pe_int (pa_cons pe_int pa_nil))) pa_nil)) (pa_cons (pe_callTy (call_strOwn R.hS R.eSf R.GS R.bS hr3 pass0) (by rfl) R.rc.str_ (by decide +kernel) (pa_cons (pe_make R.M R.GI hr3 (by rfl) R.rc.mgC R.bI .nil pass0 (pa_cons (pe_un un_neg pe_int) (pa_cons (pe_un un_neg pe_int) pa_nil))) pa_nil)) pa_nil)))))))
      (pss_cons (ps_if (pt_cmpR (op_neD hr.units) (pv 1) (pe_lst (pa_cons pe_str (pa_cons pe_str (pa_cons pe_str (pa_cons pe_str (pa_cons pe_str pa_nil)))))) (nomark _)) (pss_one (ps_ret pe_bl)) pss_nil)
      (pss_cons (ps_if (pt_cmpR op_ne (pe_callB (call_reprL hgd hr) (by rfl) R.repr_ (by decide +kernel) (pa_cons (pe_lst (pa_cons (pe_callTy (call_boolOwn R.hB R.eBf R.GB R.bB hr3 pass0) (by rfl) R.rc.bool_ (by decide +kernel) (pa_cons (pe_make R.M R.GI hr3 (by rfl) R.rc.mgC R.bI .nil pass0 (pa_cons pe_int (pa_cons pe_int pa_nil))) pa_nil)) (pa_cons (pe_cmpR (op_ownL2 (K := K) rfl R.hE R.eEf R.GE R.bE hr3 pass0) (pe_make R.M R.GI hr3 (by rfl) R.rc.mgC R.b1 R.v1 pass0 (pa_cons pe_int pa_nil)) pe_bl (nomark _)) (pa_cons (pe_cmpR (op_ownR R.hE R.eEf R.ns R.GE R.bE hr3 pass0) pe_bl (pe_make R.M R.GI hr3 (by rfl) R.rc.mgC R.b1 R.v1 pass0 (pa_cons pe_int pa_nil)) (nomark _)) (pa_cons (pe_cmpR (op_ownL2 (K := K) rfl R.hE R.eEf R.GE R.bE hr3 pass0) (pe_make R.M R.GI hr3 (by rfl) R.rc.mgC R.b1 R.v1 pass0 (pa_cons pe_int pa_nil)) pe_bl (nomark _)) (pa_cons (pe_cmpR (op_ownL2 (K := K) rfl R.hE R.eEf R.GE R.bE hr3 pass0) (pe_make R.M R.GI hr3 (by rfl) R.rc.mgC R.b1 R.v1 pass0 (pa_cons pe_int pa_nil)) pe_int (nomark _)) pa_nil)))))) pa_nil)) (pe_callB (call_reprL hgd hr) (by rfl) R.repr_ (by decide +kernel) (pa_cons (pe_lst (pa_cons pe_bl (pa_cons pe_bl (pa_cons pe_bl (pa_cons pe_bl (pa_cons pe_bl pa_nil)))))) pa_nil)) (nomark _)) (pss_one (ps_ret pe_bl)) pss_nil)
      (pss_cons (ps_for PassesOwn.never rfl (pi_range1 rfl T.range (pa_cons (pe_callB (call_max2 rfl) (by rfl) T.max (by decide +kernel) (pa_cons pe_int (pa_cons (pe_callB (call_min2 rfl) (by rfl) T.min (by decide +kernel) (pa_cons (pe_callB call_len_seq (by rfl) T.len (by decide +kernel) (pa_cons (pv 0) pa_nil)) (pa_cons pe_int pa_nil))) pa_nil))) pa_nil)) (pg_name (i := 2) scLaw.nd rfl (.inl rfl)) (pss_cons (ps_set (i := 3) scLaw.nd rfl (.inr rfl) (pe_call GS hr1 (by rfl) gS FS.kp bS .nil pass0 (pa_cons (pe_call GC hr1 (by rfl) gC FC.kp bC .nil pass0 (pa_cons (pv 0) (pa_cons (pv 2) pa_nil))) pa_nil)))
      (pss_one (ps_if (pt_not (pt_val (pe_callB (cr_all rfl) (by rfl) T.all (by decide +kernel) (pa_cons (pe_lc (own := [("_law_turn", 4)]) (g := gName 4) (tt := tYes) rfl scLaw.nd (pi_range1 rfl T.range (pa_cons pe_int pa_nil)) (blkOk_by (N := ["_law_cells", "_law_seen", "_law_k", "_law_source_here", "_law_turn"]) (sc := defScope sLaw) (by decide +kernel)) (fun _ _ _ _ _ => pg_name (i := 4) scLaw.nd rfl (Or.inl rfl)) (fun _ _ _ _ _ => pts_nil) (fun _ _ _ _ _ => pe_callG GR hgd hr (by rfl) gR FR.kp bR .nil pass0 (pa_cons (pv 3) pa_nil))) pa_nil)))) (pss_one (ps_ret pe_bl)) pss_nil))))
      (pss_one (ps_ret pe_bl)))))), ?_⟩
    refine ⟨5, rfl, ?_⟩
    intro x1 d1 hx1 hd1 hn1
    refine mk_fin (t := 0) (b := -5) hx1 hd1 hn1 (by decide) (by show (-5 : Int).natAbs < 2 ^ 200; decide) fun H1 z1 r1 => ⟨rfl, ?_⟩
    rw [show nt 0 (-5) = 0 by decide, show nb 0 (-5) = 1 by decide] at r1
    obtain ⟨dx1, e1⟩ := id r1
    refine ⟨x1, dx1, _, rfl, e1, x1, 0, 1, rfl, r1, (by show (0 : Int).natAbs < 2 ^ 200; decide), (by show (1 : Int).natAbs < 2 ^ 200; decide), _, rfl, ?_⟩
    refine ⟨4, rfl, ?_⟩
    intro x2 d2 hx2 hd2 hn2
    refine mk_fin (t := 6) (b := -4) hx2 hd2 hn2 (by decide) (by show (-4 : Int).natAbs < 2 ^ 200; decide) fun H2 z2 r2 => ⟨rfl, ?_⟩
    rw [show nt 6 (-4) = (-3) by decide, show nb 6 (-4) = 2 by decide] at r2
    obtain ⟨dx2, e2⟩ := id r2
    refine ⟨x2, dx2, _, rfl, e2, x2, -3, 2, rfl, r2, (by show (-3 : Int).natAbs < 2 ^ 200; decide), (by show (2 : Int).natAbs < 2 ^ 200; decide), _, rfl, ?_⟩
    refine ⟨3, rfl, ?_⟩
    intro x3 d3 hx3 hd3 hn3
    refine mk_fin (t := -3) (b := 1) hx3 hd3 hn3 (by decide) (by show (1 : Int).natAbs < 2 ^ 200; decide) fun H3 z3 r3 => ⟨rfl, ?_⟩
    rw [show nt (-3) 1 = (-3) by decide, show nb (-3) 1 = 1 by decide] at r3
    obtain ⟨dx3, e3⟩ := id r3
    refine ⟨x3, dx3, _, rfl, e3, x3, -3, 1, rfl, r3, (by show (-3 : Int).natAbs < 2 ^ 200; decide), (by show (1 : Int).natAbs < 2 ^ 200; decide), _, rfl, ?_⟩
    intro x4 d4 hx4 hd4 hn4
    refine mk_fin (t := 4) (b := 2) hx4 hd4 hn4 (by decide) (by show (2 : Int).natAbs < 2 ^ 200; decide) fun H4 z4 r4 => ⟨rfl, ?_⟩
    rw [show nt 4 2 = 2 by decide, show nb 4 2 = 1 by decide] at r4
    obtain ⟨dx4, e4⟩ := id r4
    refine ⟨x4, dx4, _, rfl, e4, x4, 2, 1, rfl, r4, (by show (2 : Int).natAbs < 2 ^ 200; decide), (by show (1 : Int).natAbs < 2 ^ 200; decide), _, rfl, ?_⟩
    refine ⟨1, rfl, 3, rfl, ?_⟩
    intro x5 d5 hx5 hd5 hn5
    refine mk_fin (t := -1) (b := -3) hx5 hd5 hn5 (by decide) (by show (-3 : Int).natAbs < 2 ^ 200; decide) fun H5 z5 r5 => ⟨rfl, ?_⟩
    rw [show nt (-1) (-3) = 1 by decide, show nb (-1) (-3) = 3 by decide] at r5
    obtain ⟨dx5, e5⟩ := id r5
    refine ⟨x5, dx5, _, rfl, e5, x5, 1, 3, rfl, r5, (by show (1 : Int).natAbs < 2 ^ 200; decide), (by show (3 : Int).natAbs < 2 ^ 200; decide), _, rfl, ?_⟩
    refine ⟨(by show 5 ≤ sizeLine; decide), fun l1 hl1 => ?_⟩
    rw [show rrepr 0 1 = Str.ofString "Ratio(0, 1)" by decide +kernel, show rrepr (-3) 2 = Str.ofString "Ratio(-3, 2)" by decide +kernel, show rrepr (-3) 1 = Str.ofString "Ratio(-3, 1)" by decide +kernel, show rstr 2 1 = Str.ofString "2" by decide +kernel, show rstr 1 3 = Str.ofString "1/3" by decide +kernel]
    generalize hG1 : upd H5 l1 _ = G1
    have g1 := upd_got hG1
    have y1 := upd_stay hG1 hl1
    refine ⟨_, rfl, (by show 5 ≤ sizeLine; decide), fun l2 hl2 => ?_⟩
    generalize hG2 : upd G1 l2 _ = G2
    have g2 := upd_got hG2
    have y2 := upd_stay hG2 hl2
    refine ⟨.list [.str (Str.ofString "Ratio(0, 1)"), .str (Str.ofString "Ratio(-3, 2)"), .str (Str.ofString "Ratio(-3, 1)"), .str (Str.ofString "2"), .str (Str.ofString "1/3")], .list [.str (Str.ofString "Ratio(0, 1)"), .str (Str.ofString "Ratio(-3, 2)"), .str (Str.ofString "Ratio(-3, 1)"), .str (Str.ofString "2"), .str (Str.ofString "1/3")],
      .lst (SqL.of (y2 _ _ g1)) (.cons (.str _) (.cons (.str _) (.cons (.str _) (.cons (.str _) (.cons (.str _) .nil))))), .lst (SqL.of g2) (.cons (.str _) (.cons (.str _) (.cons (.str _) (.cons (.str _) (.cons (.str _) .nil))))), by decide +kernel, by decide +kernel, _, rfl, ?_⟩
    rw [show PyData.eqv (.list [.str (Str.ofString "Ratio(0, 1)"), .str (Str.ofString "Ratio(-3, 2)"), .str (Str.ofString "Ratio(-3, 1)"), .str (Str.ofString "2"), .str (Str.ofString "1/3")]) (.list [.str (Str.ofString "Ratio(0, 1)"), .str (Str.ofString "Ratio(-3, 2)"), .str (Str.ofString "Ratio(-3, 1)"), .str (Str.ofString "2"), .str (Str.ofString "1/3")]) = true by decide +kernel]
    refine iteF ?_
    intro x6 d6 hx6 hd6 hn6
    refine mk_fin (t := 0) (b := 7) hx6 hd6 hn6 (by decide) (by show (7 : Int).natAbs < 2 ^ 200; decide) fun H6 z6 r6 => ⟨rfl, ?_⟩
    rw [show nt 0 7 = 0 by decide, show nb 0 7 = 1 by decide] at r6
    obtain ⟨dx6, e6⟩ := id r6
    refine ⟨x6, dx6, _, rfl, e6, x6, 0, 1, rfl, r6, _, rfl, ?_⟩
    intro x7 d7 hx7 hd7 hn7
    refine mk_fin (t := 1) (b := 1) hx7 hd7 hn7 (by decide) (by show (1 : Int).natAbs < 2 ^ 200; decide) fun H7 z7 r7 => ⟨rfl, ?_⟩
    rw [show nt 1 1 = 1 by decide, show nb 1 1 = 1 by decide] at r7
    obtain ⟨dx7, e7⟩ := id r7
    refine eq_ro r7 (.bl true) ?_
    intro x8 d8 hx8 hd8 hn8
    refine mk_fin (t := 1) (b := 1) hx8 hd8 hn8 (by decide) (by show (1 : Int).natAbs < 2 ^ 200; decide) fun H8 z8 r8 => ⟨rfl, ?_⟩
    rw [show nt 1 1 = 1 by decide, show nb 1 1 = 1 by decide] at r8
    obtain ⟨dx8, e8⟩ := id r8
    refine eq_or r8 (.bl true) ?_
    intro x9 d9 hx9 hd9 hn9
    refine mk_fin (t := 0) (b := 1) hx9 hd9 hn9 (by decide) (by show (1 : Int).natAbs < 2 ^ 200; decide) fun H9 z9 r9 => ⟨rfl, ?_⟩
    rw [show nt 0 1 = 0 by decide, show nb 0 1 = 1 by decide] at r9
    obtain ⟨dx9, e9⟩ := id r9
    refine eq_ro r9 (.bl false) ?_
    intro x10 d10 hx10 hd10 hn10
    refine mk_fin (t := 1) (b := 1) hx10 hd10 hn10 (by decide) (by show (1 : Int).natAbs < 2 ^ 200; decide) fun H10 z10 r10 => ⟨rfl, ?_⟩
    rw [show nt 1 1 = 1 by decide, show nb 1 1 = 1 by decide] at r10
    obtain ⟨dx10, e10⟩ := id r10
    refine eq_ro r10 (.int 1) ?_
    refine ⟨(by show 5 ≤ sizeLine; decide), fun l3 hl3 => ?_⟩
    generalize hG3 : upd H10 l3 _ = G3
    have g3 : G3 l3 = some (.lst ([false, false, false, false, true].map V.bl)) := upd_got hG3
    have y3 := upd_stay hG3 hl3
    have len5 : (PyData.list ([false, false, false, false, true].map PyData.bool)).shown.length ≤ sizeLine := by decide +kernel
    refine ⟨l3, _, _, rfl, g3, flat_bls _, len5, (by show 5 ≤ sizeLine; decide), fun l4 hl4 => ?_⟩
    generalize hG4 : upd G3 l4 _ = G4
    have g4 : G4 l4 = some (.lst ([false, false, false, false, true].map V.bl)) := upd_got hG4
    have y4 := upd_stay hG4 hl4
    refine ⟨l4, _, _, rfl, g4, flat_bls _, len5, rfl, _, rfl, iteNS rfl ?_⟩
    have zAll : Same H G4 := z1.trans (z2.trans (z3.trans (z4.trans (z5.trans (y1.trans (y2.trans (z6.trans (z7.trans (z8.trans (z9.trans (z10.trans (y3.trans y4))))))))))))
    have hS4 : SqL K G4 a (ns.map V.int) := zAll.seq hS
    have eln : ((ns.map V.int).length : Int) = (ns.length : Int) := by rw [List.length_map]
    obtain ⟨N, hN, n0, n8⟩ : ∃ N : Int, (if (if (8 : Int) < ((ns.map V.int).length : Int) then (8 : Int) else ((ns.map V.int).length : Int)) > 2 then (if (8 : Int) < ((ns.map V.int).length : Int) then (8 : Int) else ((ns.map V.int).length : Int)) else 2) = N ∧ 0 ≤ N ∧ N ≤ 8 := by
      refine ⟨_, rfl, ?_, ?_⟩
      · split <;> split <;> omega
      · split <;> split <;> omega
    refine ⟨_, rfl, a, _, rfl, .inl hS4, _, _, rfl, 2, _, rfl, N, by rw [← hN], by omega, by omega, for_range (lo := 0) (n := N.toNat) (fun i σ H' => Same G4 H' ∧ ∃ w2 w3 w4, σ = [some (.ref a), some (.ref l1), w2, w3, w4]) ⟨Same.refl _, none, none, none, rfl⟩ ?_ ?_⟩
    · rintro i σ H' hi ⟨zH, w2, w3, w4, rfl⟩
      have hi8 : (i : Int) < 8 := by omega
      refine ⟨_, rfl, _, rfl, a, ns, 0 + (i : Int), rfl, zH.seq hS4, hlen, by omega, by omega, fun c J1 zc => ?_⟩
      refine ⟨c, rfl, fun p J2 hp zs hsrc => ?_⟩
      have hp0 : G4 p = none := (zH.trans zc).free hp
      refine ⟨4, rfl, by decide, by decide, fun D hD => lc_range (lo := 0) (n := 4) (fun j H2 => SrcAt H2 p ∧ (∀ c u, c ≠ p → c ≠ D → J2 c = some u → H2 c = some u) ∧ H2 D = some (.lst ((List.replicate j true).map V.bl))) ?_ ?_ ?_⟩
      · obtain ⟨b1, b2, b3, eb⟩ := id hsrc
        exact ⟨⟨b1, b2, b3, keep eb hD⟩, fun c u _ _ e => keep e hD, upd_same⟩
      · rintro j H2 hj ⟨hs2, k2, eD⟩
        have npD : D ≠ p := (hsrc.ne hD).symm
        refine ⟨rfl, _, rfl, p, rfl, hs2, fun H3 s3 k3 => ⟨_, k3 D _ npD eD, ?_, ?_, ?_, ?_⟩⟩
        · rw [List.length_map, List.length_replicate]
          exact Nat.lt_trans hj (by decide)
        · obtain ⟨b1, b2, b3, eb⟩ := s3
          exact ⟨b1, b2, b3, by rw [upd_ne (Ne.symm npD)]; exact eb⟩
        · intro c u n1 n2 e
          rw [upd_ne n2]
          exact k3 c u n1 (k2 c u n1 n2 e)
        · rw [upd_same, List.replicate_succ', List.map_append]
          rfl
      · rintro H2 ⟨hs2, k2, eD⟩
        refine ⟨D, List.replicate 4 true, rfl, SqL.of eD, _, rfl, iteF ⟨fun c u e => ?_, _, _, _, rfl⟩⟩
        have zz := (zH.trans zc).trans zs
        have nD : G4 D = none := zz.free hD
        exact k2 c u (ne_of_none e hp0) (ne_of_none e nD) (zz c u e)
    · rintro σ H' ⟨zH, w2, w3, w4, rfl⟩
      exact q _
end
end T02

/-! The end of a law row whose def is only known to keep its promise where no guard runs. -/
namespace SF
open PySem PySem.Spec PyProof.Rows L2
/-- the script's object as the abstract heap bears it: frozen, unless it is one of the module's own -/
def scriptH (K : PySem.W.Frag) (a : Addr) (vs : List Value) (ns : List Int) : Hp := fun b =>
  if b = a ∧ K.lookup a = none then some (.frz { cls := .type "list", data := .seq vs.toArray } (.lst (ns.map V.int))) else none
section
variable {P : Program} {w : World} {K : PySem.W.Frag} {a : Addr} {vs : List Value} {ns : List Int} {s₁ : Shared}
theorem scriptH_some {b : Addr} {u : HO} (e : scriptH K a vs ns b = some u) : b = a ∧ K.lookup a = none ∧ u = .frz { cls := .type "list", data := .seq vs.toArray } (.lst (ns.map V.int)) := by
  by_cases h : b = a ∧ K.lookup a = none
  · have z : some _ = some u := (if_pos h).symm.trans e
    exact ⟨h.1, h.2, (Option.some.inj z).symm⟩
  · have z : none = some u := (if_neg h).symm.trans e
    cases z
theorem scriptH_seq (KX : K.In s₁.heap) (ha : s₁.heap.get? a = some { cls := .type "list", data := .seq vs.toArray }) (hi : IntsAre vs ns) (hl : ns.length ≤ sizeLine) : SqL K (scriptH K a vs ns) a (ns.map V.int) := by
  cases hk : K.lookup a with
  | none => exact .inl (.inr ⟨_, if_pos ⟨rfl, hk⟩⟩)
  | some o =>
    have z := (KX a o hk).symm.trans ha
    cases z
    have hz : vs.toArray.size ≤ sizeLine := by rw [List.size_toArray, hi.length]; exact hl
    exact .inr ⟨_, vs.toArray, _, hk, rfl, rfl, rfl, hz, by rw [List.toList_toArray]; exact vals_ints hi⟩
theorem scriptH_ok (ha : s₁.heap.get? a = some { cls := .type "list", data := .seq vs.toArray }) (hi : IntsAre vs ns) (hl : ns.length ≤ sizeLine) : HOk P w (scriptH K a vs ns) s₁.heap := fun b u e => by
  obtain ⟨rfl, _, rfl⟩ := scriptH_some e
  exact ⟨ha, by rw [List.length_map]; exact hl, vs, _, vals_ints hi, ha⟩
/-- whatever the written part, a namespace or a dict bears stays in the base -/
theorem scriptH_base {b : Addr} {o : Obj} (e : s₁.heap.get? b = some o) (hn : b = a → K.lookup a ≠ none) : (hidT s₁.heap (scriptH K a vs ns)).get? b = some o := by
  refine hidT_get e ?_
  cases q : scriptH K a vs ns b with
  | none => rfl
  | some u =>
    obtain ⟨z, hk, _⟩ := scriptH_some q
    exact absurd hk (hn z)
theorem scriptH_ns {b : Addr} {m : Str → Option Value} (ha : s₁.heap.get? a = some { cls := .type "list", data := .seq vs.toArray }) (n : s₁.heap.Ns b m) : (hidT s₁.heap (scriptH K a vs ns)).Ns b m := by
  obtain ⟨o, es, ep, e, d, r⟩ := n
  refine ⟨o, es, ep, scriptH_base e (fun z => ?_), d, r⟩
  rw [z, ha] at e
  cases e
  cases d
theorem law_callG {mg mb : Str → Option Value} {k : Nat} {fa : Addr} {fd : FuncData} {x : Str} {sp : Sp}
    (KX : K.In s₁.heap) (hns : s₁.heap.Ns mainGlobals mg) (hb : s₁.heap.Ns builtinsNs mb) (hbb : ∀ x : Str, x ≠ "__name__" → mb x = bootBuiltins x) (hlim : s₁.heap.NoLimit) (hg : s₁.gens = #[])
    (ha : s₁.heap.get? a = some { cls := .type "list", data := .seq vs.toArray }) (hi : IntsAre vs ns) (hl : ns.length ≤ sizeLine) (hr : Room k callerA)
    (F : ∀ base : Heap, K.In base → base.Ns mainGlobals mg → FnG P w K mg base CX0 k fa fd [x] sp) (hbind : ∀ (s : Shared) (u : Value), BindsTo s fd ⟨[u], []⟩ [(x, u)])
    (hsp : ∀ H : Hp, SqL K H a (ns.map V.int) → sp [.ref a] H (fun v _ => v = .bl true) fun _ _ _ => False) :
    codeAny (model P w) callerA (.call (.ref fa) ⟨[.ref a], []⟩) (fun r s' => r = .ok (.ret (.bool true)) ∧ PySem.OldK s₁.heap s'.heap ∧ s'.os = s₁.os ∧ AllBare s'.gens) s₁ := by
  have kb : K.In (hidT s₁.heap (scriptH K a vs ns)) := fun b o e => scriptH_base (KX b o e) fun z n => by
    rw [← z, e] at n
    cases n
  have nb := scriptH_ns (K := K) (ns := ns) ha hns
  have lb : (hidT s₁.heap (scriptH K a vs ns)).NoLimit := by
    obtain ⟨mc, n1, n2⟩ := hlim
    exact ⟨mc, scriptH_ns ha n1, n2⟩
  have okH : HOk P w (scriptH K a vs ns) s₁.heap := scriptH_ok ha hi hl
  have noF : ∀ b, b ∈ frs [] → False := fun b hb => nomatch hb
  have e0 : Env0 P w K mg (hidT s₁.heap (scriptH K a vs ns)) callerA [] s₁ (scriptH K a vs ns) :=
    { frames := rfl, mod := ⟨kb, nb, ⟨mb, scriptH_ns ha hb, hbb⟩, lb⟩, bs := fun b o e => of_hidT e, bsz := Nat.le_of_eq (hidT_size _ _), funs := trivial, frf := fun b z => (noF b z).elim, hok := okH, bare := .of_eq hg }
  have run := (F _ kb nb).run callerA [] s₁ _ ⟨[.ref a], []⟩ [.ref a] [.ref a] _ _ rfl hr e0 (hbind s₁ (.ref a)) (.cons rfl .nil) (hsp _ (scriptH_seq KX ha hi hl))
  refine codeAny_mono run fun r s' q => ?_
  rcases r with e | fl
  · exact False.elim q
  cases fl <;> first | exact False.elim q | skip
  obtain ⟨v, H', os, bare, un, ok', rv, qv⟩ := q
  have ev : v = .bl true := qv
  rw [ev] at rv
  cases rv
  refine ⟨rfl, .of_keep fun b o e => ?_, os, bare⟩
  cases z : scriptH K a vs ns b with
  | none => exact un.keep b o e z (noF b) (by simp)
  | some u =>
    obtain ⟨rfl, _, rfl⟩ := scriptH_some z
    have after := (ok' b _ (un.frzs b _ _ z)).1
    rw [e] at ha
    rw [ha]
    exact after
end
/-- the goal that the head leaves -/
theorem walkG {l : PySem.W.OpenLaw} {n k : Nat} {q : Program} {loose : List Str} {XP : (Str → Option Value) → Heap → Prop} {YP : World → Heap → Prop} {d : DefRec} {K : Params → PySem.W.Frag} {sp : PySem.W.Frag → Sp} {x : Str}
    (hn : l.most = some n) (hn2 : n ≤ sizeLine) (hdf : d.params.defaults = []) (hr : Room k callerA) (hY : ∀ (w : World) (h : Heap), YP w h → (K w.params).In h)
    (F : ∀ (w : World) (mg : Str → Option Value) (fa : Addr) (h : Heap), (K w.params).In h → h.Ns mainGlobals mg → mg d.name = some (.ref fa) →
      ∃ fd : FuncData, (∀ (s : Shared) (u : Value), BindsTo s fd ⟨[u], []⟩ [(x, u)]) ∧ ∀ base : Heap, (K w.params).In base → base.Ns mainGlobals mg → FnG l.prog w (K w.params) mg base CX0 k fa fd [x] (sp (K w.params)))
    (hsp : ∀ (K : PySem.W.Frag) (H : Hp) (a : Addr) (ns : List Int), ns.length ≤ n → SqL K H a (ns.map V.int) → sp K [.ref a] H (fun v _ => v = .bl true) fun _ _ _ => False) :
    PySem.W.WalkO q loose XP YP l.row.toRowW d [] (fun f vs => PySem.call f vs) := by
  refine Att.attach_call hn hdf fun w s₀ s₁ mg mb fa o pm cd doc a vs ns G Y ho hd hcd hmg hobj hints hlen hg => ?_
  obtain ⟨fd, hb, hF⟩ := F w mg fa _ (hY w _ Y) G.T.g hmg
  exact law_callG (hY w _ Y) G.T.g G.T.b G.T.builtins G.T.nolimit hg hobj hints (Nat.le_trans hlen hn2) hr hF hb fun H hS => hsp _ H a ns hlen hS
end SF

namespace T02
open PySem PySem.Spec PyProof.Rows L2 SF
theorem mem7 {p : String → Prop} (a : p "int") (b : p "bool") (c : p "str") (d : p "NoneType") (e : p "list") (f : p "tuple") (g : p "dict") : ∀ T ∈ kinds, p T := by
  intro T h
  simp only [kinds, List.mem_cons, List.not_mem_nil, or_false] at h
  rcases h with rfl | rfl | rfl | rfl | rfl | rfl | rfl <;> assumption

theorem rel_BT {vs ds zs : List V} {us its ws : List Value} (a : Vals vs us) (_b : Vals ds its) (c : Vals zs ws) : Vals (gBT vs ds zs) (gBT us its ws) := by
  cases c with
  | nil => exact a
  | cons r c1 =>
    cases c1 with
    | nil => exact a
    | cons r2 c2 =>
      cases c2 with
      | nil => exact a.append (.cons r2 (.cons r .nil))
      | cons _ _ => exact a
theorem rel_T1 {vs ds zs : List V} {us its ws : List Value} (a : Vals vs us) (b : Vals ds its) (c : Vals zs ws) : Vals (gT1 vs ds zs) (gT1 us its ws) := by
  cases c with
  | nil => exact a
  | cons r c1 =>
    cases c1 with
    | nil => exact a.append (.cons r b)
    | cons _ _ => exact a

theorem all_mk {P : Program} {w : World} {K : PySem.W.Frag} {h : Heap} {mg : Str → Option Value} {fa C T0 fW fCell fSrc fDraw fCom fLow fWho fPar fEqr fRig fLaw fE fB fS fR fT fO fI pT pO : Addr} (X : K.In h) (G : h.Ns mainGlobals mg) (hfa : mg "law" = some (.ref fa))
    {odD odW anW odCell anCell odSrc anSrc odDraw anDraw odCom anCom odLow anLow odWho anWho odPar anPar odEqr anEqr odRig anRig odLaw anLaw odE anE odB anB odS anS odR anR odT anT odO anO odI anI : Option Addr} {slD slW slCell slSrc slDraw slCom slLow slWho slPar slEqr slRig slLaw slE slB slS slR slT slO slI : Array (Option Value)}
    {ocD ocW kVW dcW pmW cdW ctW ocCell kVCell dcCell pmCell cdCell ctCell ocSrc kVSrc dcSrc pmSrc cdSrc ctSrc ocDraw kVDraw dcDraw pmDraw cdDraw ctDraw ocCom kVCom dcCom pmCom cdCom ctCom ocLow kVLow dcLow pmLow cdLow ctLow ocWho kVWho dcWho pmWho cdWho ctWho ocPar kVPar dcPar pmPar cdPar ctPar ocEqr kVEqr dcEqr pmEqr cdEqr ctEqr ocRig kVRig dcRig pmRig cdRig ctRig ocLaw kVLaw dcLaw pmLaw cdLaw ctLaw ocE kVE dcE pmE cdE ctE ocB kVB dcB pmB cdB ctB ocS kVS dcS pmS cdS ctS ocR kVR dcR pmR cdR ctR ocT kVT dcT pmT cdT ctT ocO kVO dcO pmO cdO ctO ocI kVI dcI pmI cdI ctI : Value} {tkD nD : Nat} {restT restO : List Value}
    (aC : PySem.W.nsIn K mainGlobals "Ratio" = some (some (.ref C)))
    (aW : PySem.W.nsIn K mainGlobals "is_whole" = some (some (.ref fW)))
    (lW : K.lookup fW = some ⟨ocW, odW, .func (PySem.W.fnOf "is_whole" "is_whole" (defArgs sIsW) (defBody sIsW) (defScope sIsW) .none kVW dcW pmW anW cdW ctW), slW⟩)
    (cW : PySem.W.codeIn K cdW "is_whole" = true)
    (kW : PySem.W.keepIn K (.ref fW) = true)
    (aCell : PySem.W.nsIn K mainGlobals "_law_cell" = some (some (.ref fCell)))
    (lCell : K.lookup fCell = some ⟨ocCell, odCell, .func (PySem.W.fnOf "_law_cell" "_law_cell" (defArgs sCell) (defBody sCell) (defScope sCell) .none kVCell dcCell pmCell anCell cdCell ctCell), slCell⟩)
    (cCell : PySem.W.codeIn K cdCell "_law_cell" = true)
    (kCell : PySem.W.keepIn K (.ref fCell) = true)
    (aSrc : PySem.W.nsIn K mainGlobals "_law_source" = some (some (.ref fSrc)))
    (lSrc : K.lookup fSrc = some ⟨ocSrc, odSrc, .func (PySem.W.fnOf "_law_source" "_law_source" (defArgs sSource) (defBody sSource) (defScope sSource) .none kVSrc dcSrc pmSrc anSrc cdSrc ctSrc), slSrc⟩)
    (cSrc : PySem.W.codeIn K cdSrc "_law_source" = true)
    (kSrc : PySem.W.keepIn K (.ref fSrc) = true)
    (aDraw : PySem.W.nsIn K mainGlobals "_law_draw" = some (some (.ref fDraw)))
    (lDraw : K.lookup fDraw = some ⟨ocDraw, odDraw, .func (PySem.W.fnOf "_law_draw" "_law_draw" (defArgs sDraw) (defBody sDraw) (defScope sDraw) .none kVDraw dcDraw pmDraw anDraw cdDraw ctDraw), slDraw⟩)
    (cDraw : PySem.W.codeIn K cdDraw "_law_draw" = true)
    (kDraw : PySem.W.keepIn K (.ref fDraw) = true)
    (aCom : PySem.W.nsIn K mainGlobals "_law_common" = some (some (.ref fCom)))
    (lCom : K.lookup fCom = some ⟨ocCom, odCom, .func (PySem.W.fnOf "_law_common" "_law_common" (defArgs sCommon) (defBody sCommon) (defScope sCommon) .none kVCom dcCom pmCom anCom cdCom ctCom), slCom⟩)
    (cCom : PySem.W.codeIn K cdCom "_law_common" = true)
    (kCom : PySem.W.keepIn K (.ref fCom) = true)
    (aLow : PySem.W.nsIn K mainGlobals "_law_lowest" = some (some (.ref fLow)))
    (lLow : K.lookup fLow = some ⟨ocLow, odLow, .func (PySem.W.fnOf "_law_lowest" "_law_lowest" (defArgs sLowest) (defBody sLowest) (defScope sLowest) .none kVLow dcLow pmLow anLow cdLow ctLow), slLow⟩)
    (cLow : PySem.W.codeIn K cdLow "_law_lowest" = true)
    (kLow : PySem.W.keepIn K (.ref fLow) = true)
    (aWho : PySem.W.nsIn K mainGlobals "_law_whole" = some (some (.ref fWho)))
    (lWho : K.lookup fWho = some ⟨ocWho, odWho, .func (PySem.W.fnOf "_law_whole" "_law_whole" (defArgs sWhole) (defBody sWhole) (defScope sWhole) .none kVWho dcWho pmWho anWho cdWho ctWho), slWho⟩)
    (cWho : PySem.W.codeIn K cdWho "_law_whole" = true)
    (kWho : PySem.W.keepIn K (.ref fWho) = true)
    (aPar : PySem.W.nsIn K mainGlobals "_law_parts" = some (some (.ref fPar)))
    (lPar : K.lookup fPar = some ⟨ocPar, odPar, .func (PySem.W.fnOf "_law_parts" "_law_parts" (defArgs sParts) (defBody sParts) (defScope sParts) .none kVPar dcPar pmPar anPar cdPar ctPar), slPar⟩)
    (cPar : PySem.W.codeIn K cdPar "_law_parts" = true)
    (kPar : PySem.W.keepIn K (.ref fPar) = true)
    (aEqr : PySem.W.nsIn K mainGlobals "_law_equal_right" = some (some (.ref fEqr)))
    (lEqr : K.lookup fEqr = some ⟨ocEqr, odEqr, .func (PySem.W.fnOf "_law_equal_right" "_law_equal_right" (defArgs sEqR) (defBody sEqR) (defScope sEqR) .none kVEqr dcEqr pmEqr anEqr cdEqr ctEqr), slEqr⟩)
    (cEqr : PySem.W.codeIn K cdEqr "_law_equal_right" = true)
    (kEqr : PySem.W.keepIn K (.ref fEqr) = true)
    (aRig : PySem.W.nsIn K mainGlobals "_law_right" = some (some (.ref fRig)))
    (lRig : K.lookup fRig = some ⟨ocRig, odRig, .func (PySem.W.fnOf "_law_right" "_law_right" (defArgs sRight) (defBody sRight) (defScope sRight) .none kVRig dcRig pmRig anRig cdRig ctRig), slRig⟩)
    (cRig : PySem.W.codeIn K cdRig "_law_right" = true)
    (kRig : PySem.W.keepIn K (.ref fRig) = true)
    (aLaw : PySem.W.nsIn K mainGlobals "law" = some (some (.ref fLaw)))
    (lLaw : K.lookup fLaw = some ⟨ocLaw, odLaw, .func (PySem.W.fnOf "law" "law" (defArgs sLaw) (defBody sLaw) (defScope sLaw) .none kVLaw dcLaw pmLaw anLaw cdLaw ctLaw), slLaw⟩)
    (cLaw : PySem.W.codeIn K cdLaw "law" = true)
    (kLaw : PySem.W.keepIn K (.ref fLaw) = true)
    (aI : PySem.W.findIn K (.ref C) "__init__" = some (some (.ref fI)))
    (iI : PySem.W.isFn K (.ref fI) = true)
    (lI : K.lookup fI = some ⟨ocI, odI, .func (PySem.W.fnOf "__init__" "Ratio.__init__" (defArgs sInit) (defBody sInit) (defScope sInit) (.ref T0) kVI dcI pmI anI cdI ctI), slI⟩)
    (cI : PySem.W.codeIn K cdI "Ratio.__init__" = true)
    (kI : PySem.W.keepIn K (.ref fI) = true)
    (lD : K.lookup T0 = some ⟨ocD, odD, .seq #[.int 1 tkD] nD, slD⟩)
    (aE : PySem.W.findIn K (.ref C) "__eq__" = some (some (.ref fE)))
    (iE : PySem.W.isFn K (.ref fE) = true)
    (lE : K.lookup fE = some ⟨ocE, odE, .func (PySem.W.fnOf "__eq__" "Ratio.__eq__" (defArgs sEq) (defBody sEq) (defScope sEq) .none kVE dcE pmE anE cdE ctE), slE⟩)
    (cE : PySem.W.codeIn K cdE "Ratio.__eq__" = true)
    (kE : PySem.W.keepIn K (.ref fE) = true)
    (aB : PySem.W.findIn K (.ref C) "__bool__" = some (some (.ref fB)))
    (iB : PySem.W.isFn K (.ref fB) = true)
    (lB : K.lookup fB = some ⟨ocB, odB, .func (PySem.W.fnOf "__bool__" "Ratio.__bool__" (defArgs sBool) (defBody sBool) (defScope sBool) .none kVB dcB pmB anB cdB ctB), slB⟩)
    (cB : PySem.W.codeIn K cdB "Ratio.__bool__" = true)
    (kB : PySem.W.keepIn K (.ref fB) = true)
    (aS : PySem.W.findIn K (.ref C) "__str__" = some (some (.ref fS)))
    (iS : PySem.W.isFn K (.ref fS) = true)
    (lS : K.lookup fS = some ⟨ocS, odS, .func (PySem.W.fnOf "__str__" "Ratio.__str__" (defArgs sStr) (defBody sStr) (defScope sStr) .none kVS dcS pmS anS cdS ctS), slS⟩)
    (cS : PySem.W.codeIn K cdS "Ratio.__str__" = true)
    (kS : PySem.W.keepIn K (.ref fS) = true)
    (aR : PySem.W.findIn K (.ref C) "__repr__" = some (some (.ref fR)))
    (iR : PySem.W.isFn K (.ref fR) = true)
    (lR : K.lookup fR = some ⟨ocR, odR, .func (PySem.W.fnOf "__repr__" "Ratio.__repr__" (defArgs sRepr) (defBody sRepr) (defScope sRepr) .none kVR dcR pmR anR cdR ctR), slR⟩)
    (cR : PySem.W.codeIn K cdR "Ratio.__repr__" = true)
    (kR : PySem.W.keepIn K (.ref fR) = true)
    (aNe : PySem.W.findIn K (.ref C) "__ne__" = some (some (.builtin "object.__ne__")))
    (aT : PySem.W.findIn K (.ref C) "top" = some (some (.ref pT)))
    (gT : PySem.W.specialIn K (.ref pT) "__get__" = some (some (.builtin "property.__get__")))
    (tT : PySem.W.takesIn K (.ref pT) = some true)
    (rT : PySem.W.recIn K pT "property" = some (.ref fT :: restT))
    (lT : K.lookup fT = some ⟨ocT, odT, .func (PySem.W.fnOf "top" "Ratio.top" (defArgs sTop) (defBody sTop) (defScope sTop) .none kVT dcT pmT anT cdT ctT), slT⟩)
    (cT : PySem.W.codeIn K cdT "Ratio.top" = true)
    (kT : PySem.W.keepIn K (.ref fT) = true)
    (aO : PySem.W.findIn K (.ref C) "bottom" = some (some (.ref pO)))
    (gO : PySem.W.specialIn K (.ref pO) "__get__" = some (some (.builtin "property.__get__")))
    (tO : PySem.W.takesIn K (.ref pO) = some true)
    (rO : PySem.W.recIn K pO "property" = some (.ref fO :: restO))
    (lO : K.lookup fO = some ⟨ocO, odO, .func (PySem.W.fnOf "bottom" "Ratio.bottom" (defArgs sBot) (defBody sBot) (defScope sBot) .none kVO dcO pmO anO cdO ctO), slO⟩)
    (cO : PySem.W.codeIn K cdO "Ratio.bottom" = true)
    (kO : PySem.W.keepIn K (.ref fO) = true)
    (mk : PySem.W.makesIn K C = true)
    (kc : PySem.W.keepIn K (.ref C) = true)
    (pg : PySem.W.plainGet K C Str.empty = true)
    (hd : PySem.W.hasDictIn K C = true)
    (po : PySem.W.plainOver K C = true)
    (sa : PySem.W.findIn K (.ref C) "__setattr__" = some (some (.builtin "object.__setattr__")))
    (nT : PySem.W.findIn K (.ref C) "_top" = some none)
    (nB : PySem.W.findIn K (.ref C) "_bottom" = some none)
    (q0 : PySem.W.kitOne K (.type "int") (.ref C) = some false)
    (u0 : PySem.W.subIn K (.ref C) (.type "int") = some false)
    (q1 : PySem.W.kitOne K (.type "bool") (.ref C) = some false)
    (u1 : PySem.W.subIn K (.ref C) (.type "bool") = some false)
    (q2 : PySem.W.kitOne K (.type "str") (.ref C) = some false)
    (u2 : PySem.W.subIn K (.ref C) (.type "str") = some false)
    (q3 : PySem.W.kitOne K (.type "NoneType") (.ref C) = some false)
    (u3 : PySem.W.subIn K (.ref C) (.type "NoneType") = some false)
    (q4 : PySem.W.kitOne K (.type "list") (.ref C) = some false)
    (u4 : PySem.W.subIn K (.ref C) (.type "list") = some false)
    (q5 : PySem.W.kitOne K (.type "tuple") (.ref C) = some false)
    (u5 : PySem.W.subIn K (.ref C) (.type "tuple") = some false)
    (q6 : PySem.W.kitOne K (.type "dict") (.ref C) = some false)
    (u6 : PySem.W.subIn K (.ref C) (.type "dict") = some false)
    (qC : PySem.W.kitOne K (.ref C) (.ref C) = some true)
    (ca : PySem.W.findIn K (.ref C) "__class__" = some (some (.builtin "object.__class__")))
    (cn : PySem.W.specialIn K (.builtin "object.__class__") "__get__" = some (some (.builtin "getset_descriptor.__get__")))
    (ct : PySem.W.takesIn K (.builtin "object.__class__") = some true)
    (cm : PySem.W.mroIn K C (.type "object") = some true)
    (aG : PySem.W.nsIn K mainGlobals "gcd" = some (some (.builtin "math.gcd")))
    (zlen : PySem.W.nsIn K mainGlobals "len" = some none)
    (zint : PySem.W.nsIn K mainGlobals "int" = some none)
    (zabs : PySem.W.nsIn K mainGlobals "abs" = some none)
    (zdivmod : PySem.W.nsIn K mainGlobals "divmod" = some none)
    (zrange : PySem.W.nsIn K mainGlobals "range" = some none)
    (zmax : PySem.W.nsIn K mainGlobals "max" = some none)
    (zmin : PySem.W.nsIn K mainGlobals "min" = some none)
    (zall : PySem.W.nsIn K mainGlobals "all" = some none)
    (zrepr : PySem.W.nsIn K mainGlobals "repr" = some none)
    (zisinstance : PySem.W.nsIn K mainGlobals "isinstance" = some none)
    (zbool : PySem.W.nsIn K mainGlobals "bool" = some none)
    (zstr : PySem.W.nsIn K mainGlobals "str" = some none) :
    ∃ fd : FuncData, (∀ (s : Shared) (u : Value), BindsTo s fd ⟨[u], []⟩ [("_law_cells", u)]) ∧ ∀ base : Heap, K.In base → base.Ns mainGlobals mg → FnG P w K mg base CX0 7 fa fd ["_law_cells"] (spLaw K) := by
  have e := hfa.symm.trans (PySem.W.mg_of X G aLaw)
  cases e
  have FW := fun_mk (st := sIsW) lW cW kW
  have bW := FW.binds (ps := ["value"]) fun _ _ _ _ _ _ us hl => match us, hl with | [_], _ => rfl
  have mW := PySem.W.mg_of X G aW
  have FCell := fun_mk (st := sCell) lCell cCell kCell
  have bCell := FCell.binds (ps := ["_law_cells", "_law_k"]) fun _ _ _ _ _ _ us hl => match us, hl with | [_, _], _ => rfl
  have mCell := PySem.W.mg_of X G aCell
  have FSrc := fun_mk (st := sSource) lSrc cSrc kSrc
  have bSrc := FSrc.binds (ps := ["_law_cell_here"]) fun _ _ _ _ _ _ us hl => match us, hl with | [_], _ => rfl
  have mSrc := PySem.W.mg_of X G aSrc
  have FDraw := fun_mk (st := sDraw) lDraw cDraw kDraw
  have bDraw := FDraw.binds (ps := ["_law_source_here", "_law_many"]) fun _ _ _ _ _ _ us hl => match us, hl with | [_, _], _ => rfl
  have mDraw := PySem.W.mg_of X G aDraw
  have FCom := fun_mk (st := sCommon) lCom cCom kCom
  have bCom := FCom.binds (ps := ["_law_one", "_law_two"]) fun _ _ _ _ _ _ us hl => match us, hl with | [_, _], _ => rfl
  have mCom := PySem.W.mg_of X G aCom
  have FLow := fun_mk (st := sLowest) lLow cLow kLow
  have bLow := FLow.binds (ps := ["_law_upper", "_law_lower"]) fun _ _ _ _ _ _ us hl => match us, hl with | [_, _], _ => rfl
  have mLow := PySem.W.mg_of X G aLow
  have FWho := fun_mk (st := sWhole) lWho cWho kWho
  have bWho := FWho.binds (ps := ["_law_source_here"]) fun _ _ _ _ _ _ us hl => match us, hl with | [_], _ => rfl
  have mWho := PySem.W.mg_of X G aWho
  have FPar := fun_mk (st := sParts) lPar cPar kPar
  have bPar := FPar.binds (ps := ["_law_source_here"]) fun _ _ _ _ _ _ us hl => match us, hl with | [_], _ => rfl
  have mPar := PySem.W.mg_of X G aPar
  have FEqr := fun_mk (st := sEqR) lEqr cEqr kEqr
  have bEqr := FEqr.binds (ps := ["_law_made", "_law_due"]) fun _ _ _ _ _ _ us hl => match us, hl with | [_, _], _ => rfl
  have mEqr := PySem.W.mg_of X G aEqr
  have FRig := fun_mk (st := sRight) lRig cRig kRig
  have bRig := FRig.binds (ps := ["_law_source_here"]) fun _ _ _ _ _ _ us hl => match us, hl with | [_], _ => rfl
  have mRig := PySem.W.mg_of X G aRig
  have FLaw := fun_mk (st := sLaw) lLaw cLaw kLaw
  have FE := fun_mk (st := sEq) lE cE kE
  have bE := FE.binds (ps := ["self", "other"]) fun _ _ _ _ _ _ us hl => match us, hl with | [_, _], _ => rfl
  have FB := fun_mk (st := sBool) lB cB kB
  have bB := FB.binds (ps := ["self"]) fun _ _ _ _ _ _ us hl => match us, hl with | [_], _ => rfl
  have FS := fun_mk (st := sStr) lS cS kS
  have bS := FS.binds (ps := ["self"]) fun _ _ _ _ _ _ us hl => match us, hl with | [_], _ => rfl
  have FR := fun_mk (st := sRepr) lR cR kR
  have bR := FR.binds (ps := ["self"]) fun _ _ _ _ _ _ us hl => match us, hl with | [_], _ => rfl
  have FT := fun_mk (st := sTop) lT cT kT
  have bT := FT.binds (ps := ["self"]) fun _ _ _ _ _ _ us hl => match us, hl with | [_], _ => rfl
  have PT : PropOf K C "top" pT fT := ⟨aT, gT, tT, restT, rT⟩
  have FO := fun_mk (st := sBot) lO cO kO
  have bO := FO.binds (ps := ["self"]) fun _ _ _ _ _ _ us hl => match us, hl with | [_], _ => rfl
  have PO : PropOf K C "bottom" pO fO := ⟨aO, gO, tO, restO, rO⟩
  have FI : FunD K "__init__" "Ratio.__init__" (defArgs sInit) (defBody sInit) (defScope sInit) [V.int 1] [] fI _ := ⟨⟨_, _, _, _, _, _, _, _, _, _, rfl, lI, cI, .inr ⟨by simp, T0, _, [.int 1 tkD], _, rfl, lD, rfl, .cons ⟨tkD, rfl⟩ .nil⟩, .inl rfl⟩, kI⟩
  obtain ⟨i0, v0, bI⟩ := FI.binds1 (ps := ["self", "top", "bottom"]) 3 1 (by simp) rfl (fun T kV doc pm an cdv ct us its h1 h2 => match us, its, h1, h2 with | [_, _, _], [_], _, _ => ⟨_, rfl, rfl⟩)
  cases v0
  obtain ⟨i1, v1, b1⟩ := FI.binds1 (ps := ["self", "top", "bottom"]) 2 0 (by simp) rfl (fun T kV doc pm an cdv ct us its h1 h2 => match us, its, h1, h2 with | [_, _], [_], _, _ => ⟨_, rfl, rfl⟩)
  obtain ⟨i2, k2⟩ := FI.kbindsD (ps := ["self", "top", "bottom"]) 1 ["bottom", "top"] (fun vs ds zs => gBT vs ds zs) (by simp) rel_BT (fun T kV doc pm an cdv ct us its ws h1 h2 h3 => match us, its, ws, h1, h2, h3 with | [_], [_], [_, _], _, _, _ => ⟨_, rfl, rfl⟩)
  obtain ⟨i3, k3⟩ := FI.kbindsD (ps := ["self", "top", "bottom"]) 1 ["top"] (fun vs ds zs => gT1 vs ds zs) (by simp) rel_T1 (fun T kV doc pm an cdv ct us its ws h1 h2 h3 => match us, its, ws, h1, h2, h3 with | [_], [_], [_], _, _, _ => ⟨_, rfl, rfl⟩)
  have RR : RC K mg C := { cl := ⟨pg, hd, po, sa⟩, nT := nT, nB := nB, mgC := PySem.W.mg_of X G aC, isi := PySem.W.mg_none_of X G zisinstance, int_ := PySem.W.mg_none_of X G zint, bool_ := PySem.W.mg_none_of X G zbool, str_ := PySem.W.mg_none_of X G zstr, gcd := PySem.W.mg_of X G aG, kB := mem7 (p := fun T => PySem.W.kitOne K (.type T) (.ref C) = some false) q0 q1 q2 q3 q4 q5 q6, kC := qC, ca := ca, cn := cn, ct := ct, cm := cm }
  have NS : NoSub K C := ⟨mem7 (p := fun T => PySem.W.subIn K (.ref C) (.type T) = some false) u0 u1 u2 u3 u4 u5 u6⟩
  have TB : Blt mg := ⟨PySem.W.mg_none_of X G zlen, PySem.W.mg_none_of X G zint, PySem.W.mg_none_of X G zabs, PySem.W.mg_none_of X G zdivmod⟩
  have TB2 : Blt2 mg := { TB with range := PySem.W.mg_none_of X G zrange, max := PySem.W.mg_none_of X G zmax, min := PySem.W.mg_none_of X G zmin, all := PySem.W.mg_none_of X G zall }
  refine ⟨PySem.W.fnOf "law" "law" (defArgs sLaw) (defBody sLaw) (defScope sLaw) .none kVLaw dcLaw pmLaw anLaw cdLaw ctLaw, fun s v => .of_eq rfl, fun base _ _ => ?_⟩
  have R : RatT P w K mg base C := { rc := RR, ns := NS, repr_ := PySem.W.mg_none_of X G zrepr, fI := fI, dI := _, GI := ok_init FI FW bW mW RR, M := ⟨mk, aI, iI, kc⟩, bI := bI, i1 := i1, v1 := v1, b1 := b1, g2 := _, k2 := k2, g3 := _, k3 := k3, fE := fE, dE := _, GE := ok_eq FE FW bW mW FT bT PT FO bO PO RR, bE := bE, hE := aE, eEf := iE, hNe := aNe, fB := fB, dB := _, GB := ok_bool FB RR, bB := bB, hB := aB, eBf := iB, fS := fS, dS := _, GS := ok_str FS RR, bS := bS, hS := aS, eSf := iS, fR := fR, dR := _, GR := ok_repr FR RR, bR := bR, hR := aR, eRf := iR, fT := fT, dT := _, GT := ok_top FT RR, bT := bT, pT := pT, PT := PT, fO := fO, dO := _, GO := ok_bot FO RR, bO := bO, pO := pO, PO := PO }
  exact ok_law FLaw R TB2 FSrc bSrc mSrc FCell bCell mCell FRig (ok_right FRig R FPar (ok_parts FPar FDraw bDraw mDraw FWho bWho mWho TB) bPar mPar FLow ((ok_lowest FLow FCom bCom mCom TB).mono (by decide)) bLow mLow FEqr (ok_eqR FEqr R) bEqr mEqr) bRig mRig
end T02

open PySem PySem.W PyProof.Rows in
set_option maxRecDepth 100000 in
set_option maxHeartbeats 0 in
theorem PySem.Challenge.cw_seriesforms_k02_ratios_in_lowest_terms_holds : PySem.Challenge.rw_seriesforms_k02_ratios_in_lowest_terms.Holds := by
  w_on; o_law; k_head; (case hw => w_witness2)
  k_fill
  refine SF.walkG (l := PySem.Challenge.rw_seriesforms_k02_ratios_in_lowest_terms) (n := 63) (k := 7) (sp := T02.spLaw) (x := "_law_cells") rfl (by decide) rfl ⟨rfl, by decide, by decide⟩ (fun w h Y => PySem.W.kIn_of Y) ?F (fun K H a ns hl hS => ⟨a, ns, rfl, hS, hl, fun _ => rfl⟩)
  case F =>
    intro w mg fa h KX G hmg
    refine' T02.all_mk KX G hmg ?aC ?aW ?lW ?cW ?kW ?aCell ?lCell ?cCell ?kCell ?aSrc ?lSrc ?cSrc ?kSrc ?aDraw ?lDraw ?cDraw ?kDraw ?aCom ?lCom ?cCom ?kCom ?aLow ?lLow ?cLow ?kLow ?aWho ?lWho ?cWho ?kWho ?aPar ?lPar ?cPar ?kPar ?aEqr ?lEqr ?cEqr ?kEqr ?aRig ?lRig ?cRig ?kRig ?aLaw ?lLaw ?cLaw ?kLaw ?aI ?iI ?lI ?cI ?kI ?lD ?aE ?iE ?lE ?cE ?kE ?aB ?iB ?lB ?cB ?kB ?aS ?iS ?lS ?cS ?kS ?aR ?iR ?lR ?cR ?kR ?aNe ?aT ?gT ?tT ?rT ?lT ?cT ?kT ?aO ?gO ?tO ?rO ?lO ?cO ?kO ?mk ?kc ?pg ?hd ?po ?sa ?nT ?nB ?q0 ?u0 ?q1 ?u1 ?q2 ?u2 ?q3 ?u3 ?q4 ?u4 ?q5 ?u5 ?q6 ?u6 ?qC ?ca ?cn ?ct ?cm ?aG ?zlen ?zint ?zabs ?zdivmod ?zrange ?zmax ?zmin ?zall ?zrepr ?zisinstance ?zbool ?zstr
    (case aC => k_is)
    (case aW => k_is)
    (case lW => k_is)
    (case cW => k_is)
    (case kW => k_is)
    (case aCell => k_is)
    (case lCell => k_is)
    (case cCell => k_is)
    (case kCell => k_is)
    (case aSrc => k_is)
    (case lSrc => k_is)
    (case cSrc => k_is)
    (case kSrc => k_is)
    (case aDraw => k_is)
    (case lDraw => k_is)
    (case cDraw => k_is)
    (case kDraw => k_is)
    (case aCom => k_is)
    (case lCom => k_is)
    (case cCom => k_is)
    (case kCom => k_is)
    (case aLow => k_is)
    (case lLow => k_is)
    (case cLow => k_is)
    (case kLow => k_is)
    (case aWho => k_is)
    (case lWho => k_is)
    (case cWho => k_is)
    (case kWho => k_is)
    (case aPar => k_is)
    (case lPar => k_is)
    (case cPar => k_is)
    (case kPar => k_is)
    (case aEqr => k_is)
    (case lEqr => k_is)
    (case cEqr => k_is)
    (case kEqr => k_is)
    (case aRig => k_is)
    (case lRig => k_is)
    (case cRig => k_is)
    (case kRig => k_is)
    (case aLaw => k_is)
    (case lLaw => k_is)
    (case cLaw => k_is)
    (case kLaw => k_is)
    (case aI => k_is)
    (case iI => k_is)
    (case lI => k_is)
    (case cI => k_is)
    (case kI => k_is)
    (case lD => k_is)
    (case aE => k_is)
    (case iE => k_is)
    (case lE => k_is)
    (case cE => k_is)
    (case kE => k_is)
    (case aB => k_is)
    (case iB => k_is)
    (case lB => k_is)
    (case cB => k_is)
    (case kB => k_is)
    (case aS => k_is)
    (case iS => k_is)
    (case lS => k_is)
    (case cS => k_is)
    (case kS => k_is)
    (case aR => k_is)
    (case iR => k_is)
    (case lR => k_is)
    (case cR => k_is)
    (case kR => k_is)
    (case aNe => k_is)
    (case aT => k_is)
    (case gT => k_is)
    (case tT => k_is)
    (case rT => k_is)
    (case lT => k_is)
    (case cT => k_is)
    (case kT => k_is)
    (case aO => k_is)
    (case gO => k_is)
    (case tO => k_is)
    (case rO => k_is)
    (case lO => k_is)
    (case cO => k_is)
    (case kO => k_is)
    (case mk => k_is)
    (case kc => k_is)
    (case pg => k_is)
    (case hd => k_is)
    (case po => k_is)
    (case sa => k_is)
    (case nT => k_is)
    (case nB => k_is)
    (case q0 => kit_is)
    (case u0 => k_is)
    (case q1 => kit_is)
    (case u1 => k_is)
    (case q2 => kit_is)
    (case u2 => k_is)
    (case q3 => kit_is)
    (case u3 => k_is)
    (case q4 => kit_is)
    (case u4 => k_is)
    (case q5 => kit_is)
    (case u5 => k_is)
    (case q6 => kit_is)
    (case u6 => k_is)
    (case qC => kit_is)
    (case ca => k_is)
    (case cn => k_is)
    (case ct => k_is)
    (case cm => k_is)
    (case aG => k_is)
    (case zlen => k_is)
    (case zint => k_is)
    (case zabs => k_is)
    (case zdivmod => k_is)
    (case zrange => k_is)
    (case zmax => k_is)
    (case zmin => k_is)
    (case zall => k_is)
    (case zrepr => k_is)
    (case zisinstance => k_is)
    (case zbool => k_is)
    (case zstr => k_is)
