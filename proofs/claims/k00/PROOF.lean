import PyProof.Rows.All
import Wide.All
import OpenK.AllK
import Wide.FinOn
import PyProof.ReprRoads
import KE.KStateDown
import Lean
import HandS.ForMost
import HandS.ForExc
import HandS.Lambda
import HandS.ExcIs
import HandS.Wide
import HandS.WideBits
import HandS.EndBits
import HandS.Defaults
import HandS.Flow
import HandS.NoneIn
import HandS.Conv
import HandS.Head0
import HandS.Head1
import HandS.Head2
import HandS.HeadEnd
import HandS.HeadHook1
import HandS.HeadHook2
import HandS.DeepEq
import PySem.Challenge.RW_beatlamps_k00_errors_keep_what_they_are
set_option Elab.async false
set_option linter.all false
set_option maxRecDepth 100000
set_option maxHeartbeats 4000000
namespace BL
open PySem PySem.Spec PyProof.Rows L2
/-! ### a def's promise where no repr runs around it -/
structure FnG (P : Program) (w : World) (K : PySem.W.Frag) (mg : Str → Option Value) (base : Heap) (C : CXT) (k : Nat)
    (f : Addr) (fd : FuncData) (ps : List Str) (sp : Sp) : Prop where
  ln : ∀ v H Q E, sp v H Q E → v.length = ps.length
  go : ∀ (A : Around) (o : List Env) (s : Shared) (H : Hp) (a : Args) (us : List Value) (vs : List V) (Q : VK) (E : XK),
    Room k A → A.guards = some [] → Env0 P w K mg base A o s H → BindsTo s fd a (ps.zip us) → Vals vs us → sp vs H Q E →
      codeAny (model P w) A (.call (.ref f) a) (CR C o P w H s Q E) s
section
variable {P : Program} {w : World} {K : PySem.W.Frag} {mg : Str → Option Value} {base : Heap} {C : CXT} {k : Nat}
  {f : Addr} {fd : FuncData} {ps : List Str} {sp : Sp}
theorem FnG.of (F : FnOk P w K mg base C k f fd ps sp) : FnG P w K mg base C k f fd ps sp :=
  ⟨F.len, fun A o s H a us vs Q E r _ => F.run A o s H a us vs Q E r⟩
theorem fnG_of {x qual : Str} {params : Arguments} {body : List Stmt} {scope : Scope} {dvs : List V} {kws : List (Str × V)}
    {N : List Str} (F : FunD K x qual params body scope dvs kws f fd) (S : FnScope N ps scope)
    (ln : ∀ v H Q E, sp v H Q E → v.length = ps.length)
    (hb : ∀ (cd : Value) (A : Around) (o : List Env) (s : Shared) (H : Hp) (vs : List V) (Q : VK) (E : XK),
      Room k (A.deeper (envOfC qual scope s.heap.objs.size f cd)) → (A.deeper (envOfC qual scope s.heap.objs.size f cd)).guards = some [] → sp vs H Q E →
      ∃ t, PSs (cxOf C P w K mg base N qual scope f cd A o s H E) body t ∧ t { nx := fun _ H' => Q .non H', rt := Q } (start N vs) H) :
    FnG P w K mg base C (k + 1) f fd ps sp := by
  obtain ⟨oc, od, dV, kV, doc, pm, an, cdv, ct, osl, rfl, lk, hcd, _, _⟩ := F.ex
  refine ⟨ln, fun A o s H a us vs Q E r g e0 b rv q => ?_⟩
  exact LamX.run_ofS lk hcd S r e0 b rv (ln _ _ _ _ q) fun r' => hb cdv A o s H vs Q E r' g q
end
section
variable {X : Cx} {C : CXT} {k : Nat} {f : Addr} {fd : FuncData} {ps : List Str} {sp : Sp} {dvs : List V} {ds : List Value} {E : XK}
  {x : Str} {p pos : Pos} {e : Expr} {es : List Expr} {t : TA}
theorem goG {pins : List (Addr × Obj)} {σ : L2.St} {H : Hp} {s : Shared} {Q : VK} {us : List Value} {vs : List V}
    (F : FnG X.prog X.w X.K X.mg X.base C k f fd ps sp) (r : Room k X.A) (g : X.A.guards = some []) (b : Binds X.K fd ps ds)
    (d : Vals dvs ds) (px : Passes C X E) (I : Inv X pins σ H s) (rv : Vals vs us) (h : sp (vs ++ dvs) H Q E) :
    wpAny (model X.prog X.w) X.A (call (.ref f) us) (EP X pins σ Q) X.xe s := by
  have rv2 := rv.append d
  have l2 : (us ++ ds).length = ps.length := rv2.length.symm.trans (F.ln _ _ _ _ h)
  refine wpAny_call (codeAny_mono (F.go X.A X.stack s H ⟨us, []⟩ _ _ Q E r g I.env0 (b s us I.kIn l2) rv2 h) fun z s' q => ?_)
  match z, q with
  | .error e, q => exact px pins σ H s e s' I q
  | .ok (.ret u), q => exact I.after q
/-- f(e, ..) -/
theorem pe_callG (F : FnG X.prog X.w X.K X.mg X.base C k f fd ps sp) (r : Room k X.A) (g : X.A.guards = some []) (hg : Gl X x)
    (hm : X.mg x = some (.ref f)) (hk : PySem.W.keepIn X.K (.ref f) = true) (b : Binds X.K fd ps ds) (d : Vals dvs ds) (px : Passes C X E)
    (ha : PA X (e :: es) t) (hdb : (x == ("__debug__" : Str)) = false := by decide)
    (he : starEach (e :: es) X.env = (false, eval e X.env) :: starEach es X.env := by rfl)
    (hpl : (backTo pos (starEach es X.env)).any (·.1) = false := by rfl) : PE X (.Call (.Name x p) (e :: es) [] pos) (tCall sp dvs E t) := by
  constructor
  intro pins s σ H Q I h
  refine wpAny_Call_Name_kw (ld_glob I hg hm ?_ hdb)
  have step := thn (ha.run pos pins s σ H _ I h) fun us s1 ⟨vs, H1, I1, rv, q⟩ =>
    (⟨I1.kIn, goG F r g b d px I1 rv q⟩ : X.K.In s1.heap ∧ wpAny (model X.prog X.w) X.A (call (.ref f) us) (EP X pins σ Q) X.xe s1)
  exact PySem.W.callWith_K (h₀ := X.base) I.ok.mod.kin hk step he hpl
end
/-! ### the law's own call -/
/-- where the script may stand: tracked as a known object, or one of the written part's -/
theorem scriptG {P : Program} {w : World} {K : PySem.W.Frag} {h : Heap} {a : Addr} {vs : List Value} {ns : List Int} (KX : K.In h)
    (ha : h.get? a = some { cls := .type "list", data := .seq vs.toArray }) (hi : IntsAre vs ns) (hl : ns.length ≤ sizeLine) :
    ∃ H : Hp, Only H ∧ SqL K H a (ns.map V.int) ∧ HOk P w H h ∧ (∀ b, H b ≠ none → b = a) ∧ (H a ≠ none → K.lookup a = none) := by
  have rv := vals_ints hi
  cases hk : K.lookup a with
  | some o =>
    have e := (KX a o hk).symm.trans ha
    cases e
    refine ⟨fun _ => none, fun _ => .inl rfl, .inr ⟨_, vs.toArray, _, hk, rfl, rfl, rfl, by rw [List.size_toArray, hi.length]; exact hl, by simpa using rv⟩,
      fun b u z => ?_, fun b z => absurd rfl z, fun z => absurd rfl z⟩
    exact nomatch (show (none : Option HO) = some u from z)
  | none =>
    let o : Obj := { cls := .type "list", data := .seq vs.toArray }
    let H : Hp := upd (fun _ => none) a (.frz o (.lst (ns.map V.int)))
    have at_ : ∀ b u, H b = some u → b = a ∧ u = .frz o (.lst (ns.map V.int)) := fun b u z => by
      by_cases hb : b = a
      · subst hb
        exact ⟨rfl, (Option.some.inj (upd_same.symm.trans z)).symm⟩
      · exact nomatch (show (none : Option HO) = some u from (upd_ne hb).symm.trans z)
    refine ⟨H, fun b => ?_, .inl (.inr ⟨o, upd_same⟩), fun b u z => ?_, fun b z => ?_, fun _ => rfl⟩
    · cases q : H b with
      | none => exact .inl rfl
      | some u => exact .inr ⟨_, _, congrArg some (at_ b u q).2⟩
    · obtain ⟨rfl, rfl⟩ := at_ b u z
      exact ⟨ha, by rw [List.length_map]; exact hl, vs, _, rv, ha⟩
    · cases q : H b with
      | none => exact absurd q z
      | some u => exact (at_ b u q).1
theorem lawG {P : Program} {w : World} {K : PySem.W.Frag} {mg mb : Str → Option Value} {C : CXT} {k : Nat} {fa a : Addr} {fd : FuncData} {x : Str} {sp : Sp}
    {s : Shared} {vs : List Value} {ns : List Int} (KX : K.In s.heap) (hns : s.heap.Ns mainGlobals mg) (hb : s.heap.Ns builtinsNs mb)
    (hbb : ∀ x : Str, x ≠ "__name__" → mb x = bootBuiltins x) (hlim : s.heap.NoLimit) (hg : s.gens = #[])
    (ha : s.heap.get? a = some { cls := .type "list", data := .seq vs.toArray }) (hi : IntsAre vs ns) (hl : ns.length ≤ sizeLine) (hr : Room k callerA)
    (F : ∀ base : Heap, K.In base → base.Ns mainGlobals mg → FnG P w K mg base C k fa fd [x] sp)
    (bi : ∀ (s : Shared) (u : Value), BindsTo s fd ⟨[u], []⟩ [(x, u)])
    (hsp : ∀ H : Hp, Only H → SqL K H a (ns.map V.int) → sp [.ref a] H (fun v _ => v = .bl true) fun _ _ _ => False)
    (hC : ∀ H e s', C [] H s (fun _ _ _ => False) e s' → False) :
    codeAny (model P w) callerA (.call (.ref fa) ⟨[.ref a], []⟩)
      (fun r s' => r = .ok (.ret (.bool true)) ∧ OldK s.heap s'.heap ∧ s'.os = s.os ∧ AllBare s'.gens) s := by
  obtain ⟨H, hO, hS, hok, hA, hK⟩ := scriptG (P := P) (w := w) KX ha hi hl
  have notD : ∀ {b : Addr} {o : Obj} {es : Array DictEntry} {ep : Nat}, s.heap.get? b = some o → o.data = .dict es ep → H b = none := fun {b o es ep} e d => by
    cases q : H b with
    | none => rfl
    | some u =>
      obtain rfl := hA b (by rw [q]; exact fun z => nomatch z)
      rw [ha] at e
      cases e
      exact nomatch (show Data.seq vs.toArray _ = Data.dict es ep from d)
  have down : ∀ {b : Addr} {m : Str → Option Value}, s.heap.Ns b m → (hidT s.heap H).Ns b m := fun {b m} ⟨o, es, ep, e, d, r⟩ =>
    ⟨o, es, ep, hidT_get e (notD e d), d, r⟩
  have kb : K.In (hidT s.heap H) := fun b o e => hidT_get (KX b o e) (by
    cases q : H b with
    | none => rfl
    | some u =>
      obtain rfl := hA b (by rw [q]; exact fun z => nomatch z)
      exact nomatch (hK (by rw [q]; exact fun z => nomatch z)).symm.trans e)
  have e0 : Env0 P w K mg (hidT s.heap H) callerA [] s H :=
    ⟨rfl, ⟨kb, down hns, ⟨mb, down hb, hbb⟩, (match hlim with | ⟨mc, h1, h2⟩ => ⟨mc, down h1, h2⟩)⟩, fun b o e => of_hidT e, Nat.le_of_eq (hidT_size _ _), trivial,
      (fun b z => absurd (show b ∈ ([] : List Addr) from z) (by simp)), hok, .of_eq hg⟩
  refine codeAny_mono ((F _ kb (down hns)).go callerA [] s H ⟨[.ref a], []⟩ [.ref a] [.ref a] _ _ hr rfl e0 (bi s (.ref a)) (.cons rfl .nil) (hsp H hO hS)) fun r s' h => ?_
  match r, h with
  | .error e, h => exact (hC H e s' h).elim
  | .ok (.ret u), ⟨v, H', os, bare, un, hok', r', q⟩ =>
    obtain rfl : v = .bl true := q
    obtain rfl : u = Value.bool true := r'
    refine ⟨rfl, OldK.of_keep fun b o e => ?_, os, bare⟩
    cases q : H b with
    | none => exact un.keep b o e q (fun z => absurd (show b ∈ ([] : List Addr) from z) (by simp)) (by simp)
    | some u =>
      rcases hO b with z | ⟨ob, xs, z⟩
      · rw [q] at z; cases z
      · obtain ⟨e1, _⟩ := hok b _ z
        obtain ⟨e2, _⟩ := hok' b _ (un.frzs b ob _ z)
        rw [e] at e1; cases e1
        exact e2
theorem walkG {l : PySem.W.OpenLaw} {n k : Nat} {q : Program} {loose : List Str} {XP : (Str → Option Value) → Heap → Prop} {YP : World → Heap → Prop} {d : DefRec} {C : World → CXT} {x : Str}
    (hn : l.most = some n) (hn2 : n ≤ sizeLine) (hdf : d.params.defaults = []) (hr : Room k callerA)
    (F : ∀ (w : World) (mg : Str → Option Value) (fa : Addr) (h : Heap), YP w h → h.Ns mainGlobals mg → mg d.name = some (.ref fa) →
      ∃ (K : PySem.W.Frag) (fd : FuncData) (sp : Sp), K.In h ∧ (∀ (s : Shared) (u : Value), BindsTo s fd ⟨[u], []⟩ [(x, u)]) ∧
        (∀ (H : Hp) (a : Addr) (ns : List Int), ns.length ≤ n → (∀ z ∈ ns, Builtin.Int.intBits z ≤ 1048576) → Only H → SqL K H a (ns.map V.int) →
          sp [.ref a] H (fun v _ => v = .bl true) fun _ _ _ => False) ∧
        ∀ base : Heap, K.In base → base.Ns mainGlobals mg → FnG l.prog w K mg base (C w) k fa fd [x] sp)
    (hC : ∀ (w : World) (H : Hp) (s : Shared) (e : Value) (s' : Shared), C w [] H s (fun _ _ _ => False) e s' → False) :
    PySem.W.WalkO q loose XP YP l.row.toRowW d [] (fun f vs => PySem.call f vs) := by
  refine Att.attach_callB hn hdf fun w s₀ s₁ mg mb fa o pm cd doc a vs ns G Y ho hd hcd hmg hobj hints hlen hbits hg => ?_
  obtain ⟨K, fd, sp, KX, hb, hsp, hF⟩ := F w mg fa _ Y G.T.g hmg
  exact lawG KX G.T.g G.T.b G.T.builtins G.T.nolimit hg hobj hints (Nat.le_trans hlen hn2) hr hF hb (fun H hO hS => hsp H a ns hlen hbits hO hS) fun H e s' => hC w H s₁ e s'
end BL
set_option Elab.async false
set_option linter.all false
set_option maxRecDepth 100000
set_option maxHeartbeats 4000000
namespace BL
open PySem PySem.W PySem.Calls PyProof.Rows PySem.HandSPX
/-! ### LampError and the classes below it: made, held as values, looked at -/
def xA (p1 p2 : Pos) : Arguments := { posonlyargs := [], args := [{ arg := "self", annotation := none, pos := p1 }, { arg := "value", annotation := none, pos := p2 }], vararg := none, kwonlyargs := [], kw_defaults := [], kwarg := none, defaults := [] }
def xB (q1 q2 q3 q4 : Pos) : List Stmt := [.Assign [.Attribute (.Name "self" q1) "value" q2] (.Name "value" q3) q4]
def xS : Scope := { kind := .function, names := [(PySem.Str.ofString "self", .local), (PySem.Str.ofString "value", .local)], isGenerator := false, isCoroutine := false, more := [] }
/-- what the written part says of the class at C, whose __init__ stands at fI -/
structure ExT (K : Frag) (C fI : Addr) : Prop where
  cls : ∃ nm q N bs bm sn sub ab col dd k0 k1 k2 k3 k5, K.lookup C = some (excClassObj nm q C N bs bm true sn sub ab col dd k0 k1 k2 k3 k5 "ValueError.__new__") ∧ refsVE bm = true
  sa : findIn K (.ref C) "__setattr__" = some (some (.builtin "object.__setattr__"))
  ga : findIn K (.ref C) "__getattribute__" = some (some (.builtin "BaseException.__getattribute__"))
  gg : findIn K (.ref C) "__getattr__" = some none
  noV : findIn K (.ref C) "value" = some none
  iC : findIn K (.ref C) "__init__" = some (some (.ref fI))
  tI : typeIn K (.ref fI) = some (.type "function")
  kC : keepIn K (.ref C) = true
  exC : subIn K (.ref C) (.type "BaseException") = some true
  tyC : typeIn K (.ref C) = some (.type "type")
  hdC : hasDictIn K C = true
  ha : findIn K (.ref C) "__class__" = some (some (.builtin "object.__class__"))
  hn : specialIn K (.builtin "object.__class__") "__get__" = some (some (.builtin "getset_descriptor.__get__"))
  ht : takesIn K (.builtin "object.__class__") = some true
  hm : mroIn K C (.type "object") = some true
  fn : ∃ (oc : Value) (od : Option Addr) (kV doc pm : Value) (an : Option Addr) (cdv ct : Value) (osl : Array (Option Value)) (p1 p2 q1 q2 q3 q4 : Pos),
    K.lookup fI = some ⟨oc, od, .func (fnOf "__init__" "LampError.__init__" (xA p1 p2) (xB q1 q2 q3 q4) xS .none kV doc pm an cdv ct), osl⟩ ∧ codeIn K cdv "LampError.__init__" = true
theorem one_fits (v : Value) : [v].length ≤ sizeLine := by
  rw [sizeLine_eq]
  exact (by decide : 1 ≤ 16777216)
theorem ldX {M : Model} {s : Shared} {name : Str} {scope : Scope} {L a : Addr} {cd : Value} {m : Str → Option Value} {x : Str} {pos : Pos} {v : Value} {Q : Value → Shared → Prop} {A : Around} {E : Value → Shared → Prop} (hn : s.heap.Ns L m) (hv : m x = some v) (h : Q v s)
    (hk : scope.kind = .function := by rfl) (hl : (envOfC name scope L a cd).kindOf x = some .local := by rfl) (hd : (x == ("__debug__" : Str)) = false := by decide) :
    wpAny M A (eval (.Name x pos) (envOfC name scope L a cd)) Q E s := wpAny_Name (wpAny_loadName_local hk hl hn hv h) hd
/-- what __init__ leaves of a fresh exception at x -/
structure XInit (h h' : Heap) (x C dx t1 : Addr) (v : Value) : Prop where
  keep : ∀ b o, b ≠ x → h.get? b = some o → h'.get? b = some o
  obj : h'.get? x = some { cls := .ref C, dict := some dx, data := .fields #[.ref t1, .none, .none, .none, .bool false, .none] }
  dbig : h.objs.size ≤ dx
  dne : dx ≠ x
  ns : h'.Ns1 dx (fun y => if y = "value" then some v else none)
/-- a made one -/
structure XMade (h h' : Heap) (e C d : Addr) (v : Value) : Prop where
  keep : ∀ b o, h.get? b = some o → h'.get? b = some o
  new : h.objs.size ≤ e
  obj : ∃ oe vs, h'.get? e = some oe ∧ oe.cls = .ref C ∧ oe.dict = some d ∧ oe.data = .fields vs ∧ vs[1]? = some .none
  dbig : h.objs.size ≤ d
  dne : d ≠ e
  ns : h'.Ns1 d (fun y => if y = "value" then some v else none)
section
variable {prog : Program} {w : World} {A : Around} {E : Value → Shared → Prop} {R : Result → Shared → Prop} {s : Shared} {K : Frag} {C fI : Addr}
theorem x_init (T : ExT K C fI) {x t0 : Addr} {v : Value} (X : K.In s.heap) (hlim : s.heap.NoLimit) (hx : s.heap.get? x = some (excO C t0)) (hroom : A.depth < recursionLimit)
    (hq : ∀ h' tk dx, XInit s.heap h' x C dx t0 v → R (.ok (.ret .none)) { s with heap := h', toks := tk }) :
    codeAny (model prog w) A (.call (.ref fI) ⟨[.ref x, v], []⟩) R s := by
  obtain ⟨oc, od, kV, doc, pm, an, cdv, ct, osl, p1, p2, q1, q2, q3, q4, ho, hcd⟩ := T.fn
  obtain ⟨nm, q, N, bs, bm, sn, sub, ab, col, dd, k0, k1, k2, k3, k5, hC, hbm⟩ := T.cls
  have hcl : clsIn K C = some { name := nm, bases := bs, mro := .ref C :: bm, ns := N, qualname := q, hasDict := true, slotNames := sn, subclasses := sub, abstract := ab, collection := col, hasDel := false } := by unfold clsIn; rw [hC] <;> rfl
  refine Att.call_fn (binds := [("self", .ref x), ("value", v)]) X hlim ho hcd hroom (BindsTo.of_eq (by first | rfl | with_unfolding_all rfl)) (by first | rfl | decide | with_unfolding_all rfl) (fun s₁ IC => ?_) rfl rfl rfl
  obtain ⟨h₁, tk₁, rfl⟩ := IC.toInCall.same
  have k : ∀ b o, s.heap.get? b = some o → h₁.get? b = some o := IC.toInCall.keep
  have hn := IC.toInCall.ns
  have X₁ : K.In h₁ := X.keeps k
  have hx₁ := k _ _ hx
  show wpAny _ _ (execs _ _) _ _ _
  refine wpAny_execs_cons (plainObj_wpAny_Assign_Attribute ?_)
  refine ldX (v := v) hn (by first | rfl | with_unfolding_all rfl | kernel_rfl) (ldX (v := .ref x) hn (by first | rfl | with_unfolding_all rfl | kernel_rfl) ?_)
  refine set_plain X₁ (ox := excO C t0) (od := none) ⟨hx₁, rfl, rfl, trivial⟩ T.sa ?_
  refine exc_osa X₁ hx₁ hcl (show refsVE (.ref C :: bm) = true from hbm) rfl T.noV (fun h₃ tk₃ dx k₃ dn dne hx₃ hn₃ => ?_)
  show wpAny _ _ (execs _ _) _ _ _
  have z : s.heap.objs.size < h₁.objs.size := hn.lt
  exact wpAny_execs_nil (hq h₃ tk₃ dx ⟨fun b o hb e => k₃ b o hb (k b o e), hx₃, Nat.le_of_lt (Nat.lt_of_lt_of_le z dn), dne, hn₃⟩)
theorem x_made (T : ExT K C fI) {v : Value} (X : K.In s.heap) (hlim : s.heap.NoLimit) (hroom : A.depth + 1 < recursionLimit)
    (hq : ∀ h' tk e d, XMade s.heap h' e C d v → R (.ok (.ret (.ref e))) { s with heap := h', toks := tk }) :
    codeAny (model prog w) A (.call (.ref C) ⟨[v], []⟩) R s := by
  obtain ⟨nm, q, N, bs, bm, sn, sub, ab, col, dd, k0, k1, k2, k3, k5, hC, hbm⟩ := T.cls
  obtain ⟨hp, g, dr, tk, os⟩ := s
  have k : ∀ b o, hp.get? b = some o → ((hp.push (kdv_tup [v])).push (excO C hp.objs.size)).get? b = some o := fun b o e => Heap.get?_push_of_some _ (Heap.get?_push_of_some _ e)
  have hget : ((hp.push (kdv_tup [v])).push (excO C hp.objs.size)).get? (hp.objs.size + 1) = some (excO C hp.objs.size) := by heap_get
  refine call_own F.excBase_ValueError (fun X => refsVE_contains X bm hbm) (X _ _ hC) (looks_findIn X T.iC) (fun self => bind_fn X self T.tI) (one_fits v) ?_
  refine x_init (s := ⟨(hp.push (kdv_tup [v])).push (excO C hp.objs.size), g, dr, tk, os⟩) T (X.keeps k) (hlim.keeps k) hget ?_ fun h' tk' dx ⟨k', hx, dn, dne, hns⟩ => ?_
  · show A.depth + 1 < recursionLimit
    exact hroom
  · have old : ∀ b o, hp.get? b = some o → h'.get? b = some o := fun b o e => k' b o (Nat.ne_of_lt (Nat.lt_succ_of_lt (Heap.lt_size e))) (k b o e)
    have z : hp.objs.size + 1 + 1 ≤ dx := by
      have q := dn
      rw [Heap.size_push, Heap.size_push] at q
      exact q
    exact ⟨rfl, hq h' tk' (hp.objs.size + 1) dx ⟨old, Nat.le_succ _, ⟨_, _, hx, rfl, rfl, rfl, rfl⟩, Nat.le_trans (Nat.le_trans (Nat.le_succ _) (Nat.le_succ _)) z, dne, hns⟩⟩
end
end BL
namespace BL
open PySem PySem.Spec PyProof.Rows L2
/-- at e: an exception of the class at C, its own dict at d -/
def ExV (C d e : Addr) : HO := .ext fun h => ∃ (oe : Obj) (vs : Array Value), h.get? e = some oe ∧ oe.cls = .ref C ∧ oe.dict = some d ∧ oe.data = .fields vs
theorem exv_ok {P : Program} {w : World} {H : Hp} {h : Heap} {e C d : Addr} {oe : Obj} {vs : Array Value} (a : h.get? e = some oe) (b : oe.cls = .ref C) (c : oe.dict = some d) (z : oe.data = .fields vs) : ObjOk P w H h e (ExV C d e) :=
  ⟨⟨oe, vs, a, b, c, z⟩, ⟨oe, a⟩, fun _ _ ⟨o, v, q, r⟩ k => ⟨o, v, k o q, r⟩⟩
/-- an exception of the class at C stands at e and bears v -/
def Bears (H : Hp) (e C : Addr) (v : V) : Prop := ∃ d, H e = some (ExV C d e) ∧ H d = some (.xd [(("value" : Str), v)])
theorem Bears.same {H H' : Hp} {e C : Addr} {v : V} (b : Bears H e C v) (k : Same H H') : Bears H' e C v := let ⟨d, h1, h2⟩ := b; ⟨d, k _ _ h1, k _ _ h2⟩
theorem relX {v : V} {u : Value} (r : RelV v u) (f : Str) : RelO (List.lookup f [(("value" : Str), v)]) (if f = "value" then some u else none) := by
  by_cases hw : f = "value"
  · subst hw
    rw [if_pos rfl, show List.lookup ("value" : Str) [(("value" : Str), v)] = some v from by simp [List.lookup]]
    exact r
  · have qw : (f == ("value" : Str)) = false := by simpa using hw
    rw [if_neg hw, show List.lookup f [(("value" : Str), v)] = none from by simp [List.lookup, qw]]
    trivial
/-- what stood, and a new exception with its dict -/
def put2 (H : Hp) (e C d : Addr) (v : V) : Hp := upd (upd H d (.xd [(("value" : Str), v)])) e (ExV C d e)
theorem put2_same {H : Hp} {e C d : Addr} {v : V} (he : H e = none) (hd : H d = none) : Same H (put2 H e C d v) := fun b o q => by
  unfold put2
  rw [upd_ne (ne_of_none q he), upd_ne (ne_of_none q hd)]
  exact q
theorem put2_bears {H : Hp} {e C d : Addr} {v : V} (ne : d ≠ e) : Bears (put2 H e C d v) e C v := by
  refine ⟨d, upd_same, ?_⟩
  unfold put2
  rw [upd_ne ne, upd_same]
/-- X(a), a value: a new exception -/
def tMkE (C : Addr) (ta : TA) : TE := fun σ H Q => ta σ H fun vs H1 => ∃ v, vs = [v] ∧ ∀ e d, H1 e = none → H1 d = none → d ≠ e → Q (.ref e) (put2 H1 e C d v)
section
variable {X : Cx} {pins : List (Addr × Obj)} {σ : L2.St} {H : Hp} {s : Shared} {C fI : Addr}
theorem Inv.made {h' : Heap} {e d : Addr} {v : V} {u : Value} {tk : Nat} (I : Inv X pins σ H s) (M : XMade s.heap h' e C d u) (r : RelV v u) :
    H e = none ∧ H d = none ∧ Inv X pins σ (put2 H e C d v) { s with heap := h', toks := tk } := by
  have he : H e = none := I.hok.fresh M.new
  have hd : H d = none := I.hok.fresh M.dbig
  have kp := put2_same (C := C) (v := v) he hd
  obtain ⟨oe, vs, o1, o2, o3, o4, _⟩ := M.obj
  have nw : ∀ b o, s.heap.get? b = some o → put2 H e C d v b = H b := fun b o q => by
    have l := Heap.lt_size q
    unfold put2
    rw [upd_ne (Nat.ne_of_lt (Nat.lt_of_lt_of_le l M.new)), upd_ne (Nat.ne_of_lt (Nat.lt_of_lt_of_le l M.dbig))]
  refine ⟨he, hd, I.un (t' := tk) ⟨fun b o q _ _ _ => M.keep b o q, fun b o q _ _ _ => ⟨o.slots, M.keep b o q⟩, fun b o q n _ => (nw b o q).trans n, fun b o q _ => ⟨o, M.keep b o q⟩,
    fun b xs q => kp b _ q, fun b o u q => kp b _ q, fun b ps q => ⟨#[], by rw [kp b _ q]; simp⟩⟩ fun b o q => ?_⟩
  by_cases be : b = e
  · subst be
    obtain rfl := Option.some.inj (upd_same.symm.trans (show upd _ b _ b = some o from q))
    exact exv_ok o1 o2 o3 o4
  · have q1 : upd H d (.xd [(("value" : Str), v)]) b = some o := (upd_ne be).symm.trans (show upd _ e _ b = some o from q)
    by_cases bd : b = d
    · subst bd
      obtain rfl := Option.some.inj (upd_same.symm.trans q1)
      exact ⟨_, M.ns, fun f => relX r f⟩
    · exact (I.hok b o ((upd_ne bd).symm.trans q1)).stay (fun c u _ z => M.keep c u z) (fun c z => kp c _ z) fun c xs z => kp c _ z
theorem pe_mkE {x : Str} {a : Expr} {ta : TA} {p pos : Pos} {k : Nat} (T : ExT X.K C fI) (hr : Room k X.A) (hm : X.mg x = some (.ref C)) (hg : Gl X x) (ha : PA X [a] ta) (hdb : (x == ("__debug__" : Str)) = false := by decide)
    (he : starEach (a :: []) X.env = (false, eval a X.env) :: starEach [] X.env := by rfl) (hpl : (backTo pos (starEach [] X.env)).any (·.1) = false := by rfl) :
    PE X (.Call (.Name x p) [a] [] pos) (tMkE C ta) := by
  constructor
  intro pins s σ H Q I h
  refine wpAny_Call_Name_kw (ld_glob I hg hm ?_ hdb)
  refine PySem.W.callWith_K (h₀ := X.base) I.ok.mod.kin T.kC (thn (ha.run pos pins s σ H _ I h) fun us s1 hh => ?_) he hpl
  obtain ⟨vs, H1, I1, r1, v, ev, q1⟩ := hh
  subst ev
  refine ⟨I1.kIn, ?_⟩
  cases r1 with
  | cons rv rn =>
    rename_i u us'
    cases rn
    show wpAny _ _ (call (.ref C) [u]) _ _ _
    have hlim := I1.nolimit
    refine wpAny_call (x_made T I1.kIn hlim (by have := hr.dp; omega) fun h' tk' e d M => ?_)
    obtain ⟨n1, n2, J⟩ := BL.Inv.made (tk := tk') I1 M rv
    exact ⟨.ref e, _, J, rfl, q1 e d n1 n2 M.dne⟩
/-! ### e.value, isinstance(e, C) of an exception held as a value -/
theorem Bears.inst (I : Inv X pins σ H s) {e : Addr} {d : Addr} (h1 : H e = some (ExV C d e)) (h2 : ∃ v, H d = some (.xd [(("value" : Str), v)])) : ∃ (oe : Obj) (od : Obj), PySem.W.InstAt s.heap e oe C (some od) := by
  obtain ⟨v, h2⟩ := h2
  obtain ⟨⟨oe, vs, o1, o2, o3, o4⟩, _, _⟩ := (show ObjOk X.prog X.w H s.heap e (ExV C d e) from I.hok e _ h1)
  obtain ⟨mA, hns, _⟩ := (show ObjOk X.prog X.w H s.heap d (.xd [(("value" : Str), v)]) from I.hok d _ h2)
  obtain ⟨od, ho, _⟩ := lookIn_ns hns
  exact ⟨oe, od, o1, o2, by unfold PySem.W.notCls; rw [o4] <;> rfl, by rw [o3]; exact ho⟩
def tValE (K : PySem.W.Frag) (te : TE) : TE := fun σ H Q => te σ H fun x H1 => ∃ (e C fI : Addr) (v : V), x = .ref e ∧ ExT K C fI ∧ Bears H1 e C v ∧ Q v H1
theorem pe_valE {e : Expr} {te : TE} {pos : Pos} (he : PE X e te) (hb : attributeBase e "value" X.env (eval e X.env) = eval e X.env := by rfl) : PE X (.Attribute e "value" pos) (tValE X.K te) := by
  refine ⟨fun pins s σ H Q I h => ?_⟩
  refine attr_of hb (thn (he.run pins s σ H _ I h) fun u s1 hh => ?_)
  obtain ⟨x, H1, I1, rx, a, C, fI, v, ex, T, ⟨d, h1, h2⟩, q⟩ := hh
  subst ex
  obtain rfl : u = Value.ref a := rx
  obtain ⟨⟨oe, vs, o1, o2, o3, o4⟩, _, _⟩ := (show ObjOk X.prog X.w H1 s1.heap a (ExV C d a) from I1.hok a _ h1)
  obtain ⟨mA, hns, hr⟩ := (show ObjOk X.prog X.w H1 s1.heap d (.xd [(("value" : Str), v)]) from I1.hok d _ h2)
  obtain ⟨od, ho, hl⟩ := lookIn_ns hns
  have l : List.lookup ("value" : Str) [(("value" : Str), v)] = some v := by simp [List.lookup]
  obtain ⟨u, hu, ru⟩ := RelO.some_of (v := v) (o := mA "value") (by rw [← l]; exact hr "value")
  have J : PySem.W.InstAt s1.heap a oe C (some od) := ⟨o1, o2, by unfold PySem.W.notCls; rw [o4] <;> rfl, by rw [o3]; exact ho⟩
  exact HandSPX.exc_get I1.kIn J T.ga T.gg T.exC (PySem.W.findObj_own T.hdC T.noV rfl (by rw [hl, hu])) (handed_of ru) ⟨v, H1, I1.tok _, ru, q⟩
end
end BL
set_option Elab.async false
set_option linter.all false
set_option maxRecDepth 100000
set_option maxHeartbeats 4000000
namespace BL
open PySem PySem.W PySem.Spec PySem.Calls PyProof.Rows
section
variable {prog : Program} {w : World} {A : Around} {E : Value → Shared → Prop} {s : Shared} {K : Frag} {x D fI : Addr} {ox : Obj} {od : Option Obj}
theorem find_class (T : ExT K D fI) : findObj K D od "__class__" = some (.bind (.builtin "getset_descriptor.__get__") (.builtin "object.__class__")) := by
  obtain ⟨cd, hc, _⟩ := any_some T.hdC
  unfold findObj
  rw [hc, Option.bind_some, T.ha, Option.bind_some]
  simp [T.hn, T.ht]
/-- e.__class__ as isinstance asks it -/
theorem ask_class {Q : Option Value → Shared → Prop} (T : ExT K D fI) (Y : K.In s.heap) (J : InstAt s.heap x ox D od) (h : Q (some (.ref D)) { s with toks := s.toks + 1 }) :
    wpAny (model prog w) A (getAttr? (.ref x) "__class__") Q E s := by
  have fo := find_class (od := od) T
  obtain ⟨hp, gs, dr, tk, os⟩ := s
  have La := J.type (M := model prog w)
  have Lb := looks_findIn (M := model prog w) Y T.ga
  have Lc := looks_findIn (M := model prog w) Y T.gg
  have Ld := looks_find (M := model prog w) Y J fo
  have Le : Looks (model prog w) hp (isInstance (.ref x) (.type "BaseException")) true := La.andThen (looks_subIn Y T.exC)
  have no0 : (false && onTheHeap (Value.builtin "BaseException.__getattribute__")) = false := rfl
  have no1 : (onTheHeap (Value.ref D) && Value.builtin "BaseException.__getattribute__" == Value.builtin "object.__getattribute__") = false := by
    rw [show (Value.builtin "BaseException.__getattribute__" == Value.builtin "object.__getattribute__") = false from by decide +kernel]; rfl
  unfold getAttr? getAttrBy? getAttrBy
  refine wpAny_bind (wpAny_mkText (wpAny_bind (wpAny_attempt (wpAny_holding
    (wpAny_bind (La.at (wpAny_bind (Lb.at ?_))))))))
  show wpAny _ _ (if (onTheHeap (Value.ref D) &&
    Value.builtin "BaseException.__getattribute__" == Value.builtin "object.__getattribute__") = true then _ else _) _ _ _
  rw [no1, if_neg Bool.false_ne_true]
  unfold getAttrByItsOwn hookBefore
  refine wpAny_bind ?_
  rw [if_pos (show onTheHeap (Value.ref D) = true by rfl)]
  refine Lc.at (wpAny_bind (wpAny_attempt (wpAny_holding ?_)))
  unfold callGetattribute
  rw [no0, if_neg Bool.false_ne_true]
  unfold boundAndCalled
  rw [PySem.F.excAttr_ValueError.ga.bind (.ref x)]
  refine wpAny_bind (wpAny_pure ?_)
  show wpAny _ _ (call (.builtin "BaseException.__getattribute__") [.ref x, .str "__class__" tk]) _ _ _
  refine wpAny_call (codeAny_call_builtin PySem.F.excAttr_ValueError.ga.plain
    PySem.F.entry_bexc_ga ?_)
  refine @check_slot (model prog w) _ _ ⟨hp, gs, dr, tk + 1, os⟩ "BaseException.__getattribute__" "BaseException" "__getattribute__"
    (.ref x) [.str "__class__" tk] [] _ (by decide +kernel) (by decide +kernel) Le (PySem.F.args_bexc_ga (.ref x) (.str "__class__" tk)) ?_
  unfold Builtin.«object.__getattribute__»
  refine wpAny_bind (wpAny_of_eq (a := ((Value.ref x : Value), [Value.str "__class__" tk]))
    (by first | rfl | (simp only [slotArgs]; rfl)) ?_)
  refine wpAny_bind (wpAny_pure (wpAny_bind (La.at (wpAny_bind (Ld.at ?_)))))
  show wpAny _ _ (holding [Value.builtin "object.__class__"]
    (call (.builtin "getset_descriptor.__get__") [.builtin "object.__class__", .ref x, .ref D]) >>= ret) _ _ _
  refine wpAny_bind (wpAny_holding (wpAny_call (class_get (s := ⟨hp, gs, dr, tk + 1, os⟩) (ox := ox) (od := od) Y J T.hm ?_)))
  refine wpAny_pure ?_
  show wpAny _ _ (handedOut (.ref D)) _ _ _
  rw [handedOut_of (v := .ref D) rfl]
  first
    | exact wpAny_pure (wpAny_pure h)
    | exact wpAny_pure h
    | exact wpAny_pure (wpAny_bind (wpAny_pure (wpAny_pure h)))
theorem kit_exc (T : ExT K D fI) : KitX K (.ref x) (.ref D) (fun h => ∃ ox od, InstAt h x ox D od) where
  ty := fun _ _ _ ⟨_, _, J⟩ => J.type
  it := fun _ _ Y _ => by
    obtain ⟨nm, q, N, bs, bm, sn, sub, ab, col, dd, k0, k1, k2, k3, k5, hC, _⟩ := T.cls
    intro A' Q' E' s' k q
    unfold isType loadHead
    exact wpAny_bind (wpAny_loadPart (k _ _ (Y _ _ hC)) (wpAny_pure q))
  ne := fun h tp dd its n sl Y htp => by
    obtain ⟨nm, q, N, bs, bm, sn, sub, ab, col, d2, k0, k1, k2, k3, k5, hC, _⟩ := T.cls
    refine Bool.eq_false_iff.mpr fun e => ?_
    obtain rfl : D = tp := Value.ref.inj (beq_iff_eq.mp e)
    have z := congrArg Obj.data (Option.some.inj ((Y _ _ hC).symm.trans htp))
    exact nomatch z
  ca := fun Y ⟨_, _, J⟩ k => ask_class T Y J k
end
end BL
namespace BL
open PySem PySem.Spec PyProof.Rows L2
section
variable {X : Cx}
/-- isinstance(e, c), e an exception held as a value -/
def rIsV (K : PySem.W.Frag) : List V → Hp → VK → Prop := fun xs H Q => ∃ (e C fI : Addr) (v c : V) (cv : Value) (b : Bool), xs = [.ref e, c] ∧ ExT K C fI ∧ Bears H e C v ∧ (∀ u, RelV c u → u = cv) ∧ PySem.W.kitOne K (.ref C) cv = some b ∧ Q (.bl b) H
theorem call_isV : CallR X (.builtin "isinstance") (rIsV X.K) := by
  intro pins s σ H xs us Q I r h
  obtain ⟨e, C, fI, v, c, cv, b, rfl, T, ⟨d, h1, h2⟩, hcv, hb, q⟩ := h
  match us, r with
  | _, .cons rx (.cons rt .nil) =>
    cases rx
    obtain rfl := hcv _ rt
    obtain ⟨oe, od, J⟩ := Bears.inst I h1 ⟨v, h2⟩
    exact PySem.W.kia_one (kit_exc T) I.kIn ⟨oe, _, J⟩ hb (fun z => nomatch z) fun tk => ⟨.bl b, H, I.kept (t' := tk) fun _ _ z => z, rfl, q⟩
end
/-! ### repr of data, some of it dicts -/
/-- what v shows: data of any depth; dicts of flat values -/
inductive Dq (K : PySem.W.Frag) (H : Hp) : V → PyData → Prop
  | of {v : V} {d : PyData} : Dp K H v d → Dq K H v d
  | d0 {a : Addr} : H a = some (.dK []) → Dq K H (.ref a) (.dict [])
  | d1 {a : Addr} {x : Str} {i : Int} : H a = some (.dK [(.inr x, .int i)]) → Dq K H (.ref a) (.dict [(.str x, .int i)])
mutual
theorem dp_nodict {K : PySem.W.Frag} {H : Hp} : ∀ (d : PyData) (v : V), Dp K H v d → d.hasDict = false
  | .none, _, _ => rfl
  | .bool _, _, _ => rfl
  | .int _, _, _ => rfl
  | .str _, _, _ => rfl
  | .list ds, _, h => by
    cases h with
    | lst _ ha => exact dpAll_nodict ds _ ha
  | .tuple ds, _, h => by
    cases h with
    | tup _ ha => exact dpAll_nodict ds _ ha
  | .dict _, _, h => by cases h
theorem dpAll_nodict {K : PySem.W.Frag} {H : Hp} : ∀ (ds : List PyData) (vs : List V), DpAll K H vs ds → PyData.hasDictAll ds = false
  | [], _, _ => rfl
  | d :: ds, _, h => by
    cases h with
    | cons a b =>
      show (d.hasDict || PyData.hasDictAll ds) = false
      rw [dp_nodict d _ a, dpAll_nodict ds _ b]; rfl
end
section
variable {X : Cx} {pins : List (Addr × Obj)} {σ : L2.St} {H : Hp} {s : Shared}
theorem Dq.reads (I : Inv X pins σ H s) {d : PyData} {v : V} {u : Value} (h : Dq X.K H v d) (r : RelV v u) : ∃ as, Reads s.heap u d as ∧ (d.hasDict = true → sysModules ∉ as) := by
  cases h with
  | of h =>
    obtain ⟨as, q⟩ := Dp.reads I d v u h r
    exact ⟨as, q, fun z => by rw [dp_nodict d v h] at z; cases z⟩
  | @d0 a h =>
    cases r
    obtain ⟨_, ns, vs, kv, o, es, ep, ho, ex, hd, _, pr, _⟩ := (show ObjOk X.prog X.w H s.heap a (.dK []) from I.hok a _ h)
    cases kv
    have e : es.toList = [] := by
      generalize es.toList = l at pr
      cases pr; rfl
    refine ⟨[a], ?_, fun _ z => ?_⟩
    · exact Reads.dict (as := []) (bs := []) ho ex.1 hd (by rw [e]; exact .nil) (by rw [e]; exact .nil)
    · rw [List.mem_singleton] at z
      rw [z] at ns
      simp at ns
  | @d1 a x i h =>
    cases r
    obtain ⟨_, ns, vs, kv, o, es, ep, ho, ex, hd, _, pr, _⟩ := (show ObjOk X.prog X.w H s.heap a (.dK _) from I.hok a _ h)
    cases kv with
    | @cons _ q _ qs rq t =>
      cases t
      obtain ⟨e1, t1, e2⟩ := rq
      obtain ⟨k, u⟩ := q
      dsimp only at e1 e2
      subst e1 e2
      have e : ∃ en : DictEntry, es.toList = [en] ∧ (∃ t, en.key = .str x t) ∧ en.val = .int i t1 := by
        generalize es.toList = l at pr
        cases pr with
        | cons p1 p2 p3 =>
          cases p3
          exact ⟨_, rfl, Value.isStrOf_shape (show Value.isStrOf x _ = true from p1), p2⟩
      obtain ⟨en, ee, ⟨t2, ek⟩, ev⟩ := e
      refine ⟨[a], ?_, fun _ z => ?_⟩
      · refine Reads.dict (as := []) (bs := []) ho ex.1 hd ?_ ?_
        · rw [ee]
          show ReadsAll s.heap [en.key] [.str x] ([] ++ [])
          rw [ek]
          exact .cons (.str x t2) .nil
        · rw [ee]
          show ReadsAll s.heap [en.val] [.int i] ([] ++ [])
          rw [ev]
          exact .cons (.int i t1) .nil
      · rw [List.mem_singleton] at z
        rw [z] at ns
        simp at ns
end
theorem Dp.same {K : PySem.W.Frag} {H H' : Hp} (k : Same H H') : ∀ (d : PyData) (v : V), Dp K H v d → Dp K H' v d := by
  have key : ∀ n : Nat, (∀ (d : PyData) (v : V), sizeOf d ≤ n → Dp K H v d → Dp K H' v d) := by
    intro n
    induction n with
    | zero => intro d v hs; cases d <;> simp at hs <;> omega
    | succ n ih =>
      have all : ∀ (ds : List PyData) (vs : List V), sizeOf ds ≤ n → DpAll K H vs ds → DpAll K H' vs ds := by
        intro ds
        induction ds with
        | nil => intro vs _ h; cases h; exact .nil
        | cons d ds ih2 =>
          intro vs hs h
          cases h with
          | cons a b => exact .cons (ih d _ (by simp at hs; omega) a) (ih2 _ (by simp at hs; omega) b)
      intro d v hs h
      cases h with
      | non => exact .non
      | bl b => exact .bl b
      | int i => exact .int i
      | str x => exact .str x
      | lst a b =>
        exact .lst (k.seq a) (all _ _ (by simp at hs; omega) b)
      | tup a b =>
        refine .tup ?_ (all _ _ (by simp at hs; omega) b)
        rcases a with (a | ⟨o, a⟩) | a
        · exact .inl (.inl (k _ _ a))
        · exact .inl (.inr ⟨o, k _ _ a⟩)
        · exact .inr a
  exact fun d v => key _ d v (Nat.le_refl _)
theorem Dq.same {K : PySem.W.Frag} {H H' : Hp} (k : Same H H') {d : PyData} {v : V} (h : Dq K H v d) : Dq K H' v d := by
  cases h with
  | of h => exact .of (Dp.same k _ _ h)
  | d0 h => exact .d0 (k _ _ h)
  | d1 h => exact .d1 (k _ _ h)
section
variable {X : Cx}
def rRepr (K : PySem.W.Frag) : List V → Hp → VK → Prop := fun xs H Q => ∃ v d, xs = [v] ∧ Dq K H v d ∧ d.showable = true ∧ d.depth ≤ 40 ∧ d.shown.length ≤ sizeLine ∧ Q (.str d.shown) H
theorem call_repr (g : X.A.guards = some []) (hu : X.A.units + 64 < cLine) : CallR X (.builtin "repr") (rRepr X.K) := by
  intro pins s σ H xs us Q I r h
  obtain ⟨v, d, rfl, hd, sh, dp, sz, q⟩ := h
  match us, r with
  | [u], .cons rv .nil =>
    have I1 : ∀ tk, EP X pins σ Q (.str d.shown tk) { s with toks := s.toks + 1 } := fun tk => ⟨.str d.shown, H, I.tok _, ⟨tk, rfl⟩, q⟩
    have byRef : ∀ a, u = .ref a → wpAny (model X.prog X.w) X.A (call (.builtin "repr") [u]) (EP X pins σ Q) X.xe s := fun a e => by
      subst e
      obtain ⟨as, r1, r2⟩ := Dq.reads I hd rv
      exact repr_of_reads' r1 sh r2 g (by omega) (fun _ _ z => z) (fun h' u tk k => ⟨.str d.shown, H, I.kept (t' := tk) k, ⟨u, rfl⟩, q⟩) sz
    cases hd with
    | of hd =>
      cases hd with
      | non => cases rv; exact PySem.P.repr_of_none (I1 _)
      | bl b => cases rv; exact PySem.P.repr_of_bool (I1 _)
      | int i => obtain ⟨t, rfl⟩ := rv; exact PySem.P.repr_of_int (of_decide_eq_true sh) (I1 _)
      | str x => obtain ⟨t, rfl⟩ := rv; exact PySem.P.repr_of_str (I1 _) sz
      | lst a b => exact byRef _ (by cases rv; rfl)
      | tup a b => exact byRef _ (by cases rv; rfl)
    | d0 a => exact byRef _ (by cases rv; rfl)
    | d1 a => exact byRef _ (by cases rv; rfl)
/-- a ** b, the result within 2 ^ 27 bits -/
def CPowW (i j : Int) : Prop := 0 ≤ j ∧ (Builtin.Int.intBits i : Int) * j ≤ 2 ^ 27
theorem op_powW : OpR X (binaryOp .Pow) (rI CPowW fun i j => .int (i ^ j.toNat)) := opI fun _ _ _ _ _ _ _ hc q => pow_int hc.1 hc.2 q
end
end BL
set_option Elab.async false
set_option linter.all false
set_option maxRecDepth 100000
set_option maxHeartbeats 4000000
namespace BL
open PySem PySem.Spec PyProof.Rows L2
/-! ### raise X(v) -/
def tMkX (C : Addr) (ta : TA) : L2.St → Hp → XK → Prop := fun σ H Q => ta σ H fun vs H1 => ∃ v, vs = [v] ∧ ∀ d, H1 d = none → Q (.ref C) (some d) (upd H1 d (.xd [(("value" : Str), v)]))
section
variable {X : Cx} {C fI : Addr}
theorem pmk_X {x : Str} {a : Expr} {ta : TA} {p pos : Pos} {k : Nat} (T : ExT X.K C fI) (hr : Room k X.A) (hm : X.mg x = some (.ref C)) (hg : Gl X x) (ha : PA X [a] ta) (hdb : (x == ("__debug__" : Str)) = false := by decide)
    (he : starEach (a :: []) X.env = (false, eval a X.env) :: starEach [] X.env := by rfl) (hpl : (backTo pos (starEach [] X.env)).any (·.1) = false := by rfl) :
    PMk X (.Call (.Name x p) [a] [] pos) (tMkX C ta) := by
  intro pins s σ H Q I h
  refine wpAny_Call_Name_kw (ld_glob I hg hm ?_ hdb)
  refine PySem.W.callWith_K (h₀ := X.base) I.ok.mod.kin T.kC (thn (ha.run pos pins s σ H _ I h) fun us s1 hh => ?_) he hpl
  obtain ⟨vs, H1, I1, r1, v, ev, q1⟩ := hh
  subst ev
  refine ⟨I1.kIn, ?_⟩
  match us, r1 with
  | [u], .cons rv .nil =>
    show wpAny _ _ (call (.ref C) [u]) _ _ _
    have lim := I1.nolimit
    obtain ⟨hp, gs, dr, tk, os⟩ := s1
    refine wpAny_call (x_made T I1.kIn lim (by have := hr.dp; omega) fun h' tk' e d M => ?_)
    obtain ⟨oe, fv, o1, o2, o3, o4, o5⟩ := M.obj
    obtain ⟨G, g1, g2⟩ := restrict h' fun b => decide (b ≠ e)
    have gk : ∀ b, b ≠ e → G.get? b = h'.get? b := fun b hb => g1 b (decide_eq_true hb)
    have ge : G.get? e = none := g2 e (by simp)
    have old : ∀ b o, hp.get? b = some o → G.get? b = some o := fun b o q => (gk b (Nat.ne_of_lt (Nat.lt_of_lt_of_le (Heap.lt_size q) M.new))).trans (M.keep b o q)
    have ob : ObjOk X.prog X.w (upd H1 d (.xd [(("value" : Str), v)])) G d (.xd [(("value" : Str), v)]) := ⟨_, M.ns.at (fun o q => (gk d M.dne).trans q), fun f => relX rv f⟩
    have J : Inv X pins σ (upd H1 d (.xd [(("value" : Str), v)])) ⟨G, gs, dr, tk', os⟩ := I1.laid (t' := tk') old M.dbig ob
    refine ⟨e, oe, fv, ⟨G, gs, dr, tk', os⟩, _, .ref C, some d, rfl, J, fun b o q => ?_, ge, o1, ⟨o2, o3⟩, o4, o5, ?_, rfl, I1.bare, raises_own T.exC T.tyC, q1 d (I1.hok.fresh M.dbig)⟩
    · by_cases hb : b = e
      · rw [hb] at q
        exact nomatch ge.symm.trans q
      · exact (gk b hb).symm.trans q
    · rw [upd_ne (Ne.symm M.dne)]
      exact I1.hok.fresh M.new
end
/-! ### try: .. except c as n: suite, the exception held by the suite stands behind it -/
section
variable {X : Cx} {pins : List (Addr × Obj)} {σ : L2.St} {H : Hp} {s : Shared}
theorem Inv.track {a : Addr} {oe : Obj} {o : HO} (I : Inv X ((a, oe) :: pins) σ H s) (h0 : X.s_0.heap.get? a = none) (hp : ∀ p ∈ X.pn ++ pins, p.1 ≠ a) (new : ObjOk X.prog X.w (upd H a o) s.heap a o) : Inv X pins σ (upd H a o) s := by
  obtain ⟨ha, na, nl, nf, nc⟩ := I.pin (a, oe) (List.mem_append_right _ List.mem_cons_self)
  dsimp only at ha na nl nf nc
  have un : ∀ {b}, b ≠ a → upd H a o b = H b := fun hb => upd_ne hb
  have some_ : ∀ {b u}, H b = some u → upd H a o b = some u := fun q => (un (ne_of_none q na)).trans q
  refine ⟨I.ok, I.os, I.bare, ⟨I.base.keep, I.base.slot, fun b u e n hx => ?_, I.base.there, fun b xs e => some_ (I.base.tups b xs e), fun b u xs e => some_ (I.base.frzs b u xs e), fun b ps e => ?_⟩, I.loc, I.cell, ?_, fun y c e => ?_, fun p m => ?_, fun b u e => ?_, I.len⟩
  · have : b ≠ a := fun z => by
      rw [z, h0] at e
      cases e
    exact (un this).trans (I.base.free b u e n hx)
  · obtain ⟨m, q⟩ := I.base.tbls b ps e
    exact ⟨m, some_ q⟩
  · exact (un (Ne.symm nl)).trans I.free
  · have : c ≠ a := fun z => by
      obtain ⟨v, u, e1, e2⟩ := I.cell y c e
      rw [z, ha] at e1
      cases e1
      exact nc v e2
    exact (un this).trans (I.freeC y c e)
  · obtain ⟨e, n, r⟩ := I.pin p (by
      rcases List.mem_append.mp m with m | m
      · exact List.mem_append_left _ m
      · exact List.mem_append_right _ (List.mem_cons_of_mem _ m))
    exact ⟨e, (un (hp p m)).trans n, r⟩
  · by_cases hb : b = a
    · subst hb
      obtain rfl := Option.some.inj (upd_same.symm.trans e)
      exact new
    · exact (I.hok b u ((un hb).symm.trans e)).stay (fun c v _ q => q) (fun c q => some_ q) fun c xs q => some_ q
/-- behind the suite -/
def kept (a : Addr) (cls : Value) (d : Option Addr) (H : Hp) (R : Hp → Prop) : Prop := ∃ (C dd : Addr), cls = .ref C ∧ d = some dd ∧ R (upd H a (ExV C dd a))
def wKeep (K : PySem.W.Frag) (c : Value) (i : Nat) (ts : Addr → TS) (Wout : WX) (D : Ends) : WX := fun cls d σ H =>
  ∃ b, PySem.W.exmOne K cls c = some b ∧ (b = true → ∀ a, H a = none → ts a { nx := fun σ' H' => kept a cls d H' fun H2 => D.nx (σ'.set i none) H2, rt := fun _ _ => False, bk := fun _ _ => False, ct := fun _ _ => False } (σ.set i (some (.ref a))) H) ∧
    (b = false → Wout cls d σ H)
end
section
variable {X : Cx} {x n : Str} {c : Value} {i : Nat} {body suite : List Stmt} {b₀ : Stmt} {np pos pos' : Pos} {tb : WX → TS} {ts : Addr → TS} {Wout : WX}
theorem ps_try_keep (hex : X.ex = []) (hs : X.stack = X.env :: X.outer) (hf : X.env.frame = some X.env.locals) (hN : X.N.Nodup) (hi : X.N[i]? = some n) (hln : X.env.kindOf n = some .local) (hc : Names X x c) (tk : Takes X Wout)
    (hb : ∀ (W : WX) (pn : List (Addr × Obj)) (xe : Value → Shared → Prop), Takes (X.tr pn xe) W → PassesOwn (model X.prog X.w) X.A X.env xe → PSs (X.tr pn xe) body (tb W))
    (hsu : ∀ (a : Addr) (oe : Obj) (pn : List (Addr × Obj)), PSs (X.suite a ((a, oe) :: pn)) (b₀ :: suite) (ts a)) :
    PS X (.Try body [.ExceptHandler (some (.Name x np)) (some n) (b₀ :: suite) pos'] [] [] pos) (fun D σ H => tb (wKeep X.K c i ts Wout D) D σ H) := by
  constructor
  intro pins s σ H D I h
  have ok := I.ok
  have hfr : X.A.frames = some (X.env :: X.outer) := by rw [ok.frames, hs]
  have hloc : Loc X.env.scope n := .inl hln
  refine wpAny_Try_except ?_
  refine wpAny_mono ((hb (wKeep X.K c i ts Wout D) (X.pn ++ pins)
    (fun e s₁ => wpAny (model X.prog X.w) X.A (noteFrame e X.env)
      (fun _ s₂ => wpAny (model X.prog X.w) X.A (setFlight e none)
        (fun _ s₃ => wpAny (model X.prog X.w) X.A (handleBy e X.env [.ExceptHandler (some (.Name x np)) (some n) (b₀ :: suite) pos']) (SP X pins D) X.xe s₃) X.xe s₂) X.xe s₁)
    (fun u s' xx => ?_) PassesOwn.looking).run [] s σ H D (I.toTry _) h)
    (fun f s1 hsp => ?_) (fun e s1 he => he)
  · show wpAny (model X.prog X.w) X.A (noteFrame u X.env) _ _ _
    obtain ⟨a, B, sI, pins', σ', H', cls, d, rfl, J', nb, up, sky, na, os, ag, b, hb1, hyes, hno⟩ := xx
    have J := J'.ofTry ok (pins := pins)
    have sky' : Sky B (X.env :: X.outer) a (Zc cls d) X.env.locals s'.heap := by rw [← hs]; exact sky
    show wpAny (model X.prog X.w) X.A (noteFrame (.ref a) X.env) _ _ _
    refine Sky.land Zc.steady hfr hf sky' fun h3 fl3 up3 => ?_
    have J3 : Inv X pins σ' H' { s' with heap := h3 } := J.landed nb fl3.1 (up.trans up3) os ag
    obtain ⟨oe3, vs3, he3, hz3, hd3⟩ := fl3.there
    have nfr : a ∉ frs (X.env :: X.outer) := fun hm => by
      obtain ⟨_, o', e', hnf⟩ := fl3.2.2.1.mem hm
      rw [he3] at e'; cases e'
      exact hnf _ hd3
    have nL : a ≠ X.env.locals := fun z => nfr (List.mem_filterMap.mpr ⟨X.env, List.mem_cons_self, by rw [hf, z]⟩)
    have nF : a ∉ X.fs := fun hm => by
      obtain ⟨e, he, q⟩ := List.mem_filterMap.mp hm
      exact nfr (List.mem_filterMap.mpr ⟨e, List.mem_cons_of_mem _ he, q⟩)
    have nB : B.get? a = none := fl3.2.1
    have inB : ∀ b' o', sI.heap.get? b' = some o' → b' ∉ frs X.stack → b' ≠ a := fun b' o' e hn z => by
      have q := nb b' o' e hn
      rw [z, nB] at q
      cases q
    have nst : a ∉ frs X.stack := by rw [hs]; exact nfr
    have h0 : X.s_0.heap.get? a = none := by
      cases q : X.s_0.heap.get? a with
      | none => rfl
      | some o =>
        obtain ⟨o', e⟩ := J.base.there a o q (by rw [hex]; simp)
        exact absurd rfl (inB a o' e nst)
    have nP : ∀ p ∈ X.pn ++ pins, p.1 ≠ a := fun p hp => by
      obtain ⟨e, _, ne, nf, _⟩ := J.pin p hp
      refine inB p.1 p.2 e fun hm => ?_
      rcases List.mem_cons.mp (J.stkSub _ hm) with z | z
      · exact ne z
      · exact nf z
    have S3 := J3.suite he3 hd3 na nL nF
    refine wpAny_handleBy_cons (codeAny_handlers_test ?_) (by intro q; cases q)
    have LT : PySem.W.Looks (model X.prog X.w) h3 (typeOf (.ref a)) cls := fun A Q E s k q => wpAny_typeOf_ref (k _ _ he3) (by rw [hz3.1]; exact q)
    have LM := PySem.W.exm_one (M := model X.prog X.w) (J3.kIn) LT hb1
    have test : ∀ {Q : Value → Shared → Prop} {E : Value → Shared → Prop}, Q c { s' with heap := h3 } →
        wpAny (model X.prog X.w) (X.A.mark (some (.ref a))) (eval (.Name x np) X.env) Q E { s' with heap := h3 } := fun {Q E} q => by
      obtain ⟨hg, hdbg, hm | ⟨hm, hv, hnn⟩⟩ := hc
      · exact ld_glob (X := X.suite a ((a, oe3) :: (X.pn ++ pins))) S3 hg hm q hdbg
      · exact ld_blt (X := X.suite a ((a, oe3) :: (X.pn ++ pins))) S3 hg hm hv q hnn hdbg
    refine test (LM.here ?_)
    cases b with
    | true =>
      refine codeAny_handlers_suite_as ?_
      refine HandSPX.lands_againZ fl3 fun h4 fl4 up4 => ?_
      have J4 : Inv X pins σ' H' { s' with heap := h4 } := J.landed nb fl4.1 ((up.trans up3).trans up4) os ag
      obtain ⟨oe4, vs4, he4, hz4, hd4⟩ := fl4.there
      have S4 := J4.suite he4 hd4 na nL nF
      refine store_ok (X := X.suite a ((a, oe4) :: (X.pn ++ pins))) (v := .ref a) S4 hN hi hloc rfl (fun s5 S5 => ?_) (.inr hln)
      refine wpAny_mono ((hsu a oe4 (X.pn ++ pins)).run [] s5 _ H' _ S5 (hyes rfl a na)) (fun f s6 hsp => ?_) (fun _ _ z => False.elim z)
      match f, hsp with
      | .next, ⟨σ6, H6, S6, C, dd, ec, ed, q6⟩ =>
        have P6 : Inv X ((a, oe4) :: pins) σ6 H6 s6 := (S6.unsuite ok).pins_of fun p hp => by
          rcases List.mem_cons.mp hp with e | hp
          · rw [e]
            exact S6.pin (a, oe4) (List.mem_append_left _ List.mem_cons_self)
          · exact S6.pin p (List.mem_append_left _ (List.mem_cons_of_mem _ (List.mem_append_right _ hp)))
        refine gone_ok P6 hN hi hln fun s7 J7 => ⟨_, _, BL.Inv.track J7 h0 nP ?_, q6⟩
        obtain ⟨e7, _⟩ := J7.pin (a, oe4) (List.mem_append_right _ List.mem_cons_self)
        exact exv_ok e7 (hz4.1.trans ec) (hz4.2.trans ed) hd4
      | .ret u, ⟨_, _, _, _, _, z⟩ => exact False.elim z
      | .brk, ⟨_, _, _, z⟩ => exact False.elim z
      | .cont, ⟨_, _, _, z⟩ => exact False.elim z
    | false =>
      show wpAny _ X.A (handleBy (.ref a) X.env []) _ _ _
      refine wpAny_handleBy_nil ?_
      obtain ⟨k1, k2, k3, oe, vs, T, oT, ts', he, hz, hd, h1, hr⟩ := id fl3
      unfold PySem.passOn
      refine wpAny_bind (wpAny_field he hd h1 ?_)
      rw [if_neg (by simp : ¬ ((Value.ref T == Value.none) = true))]
      have fin : wpAny (model X.prog X.w) X.A (setFlight (.ref a) X.env.frame)
          (fun _ s4 => wpAny (model X.prog X.w) X.A (throw (.ref a) : Sem Flow) (SP X pins D) X.xe s4) X.xe { s' with heap := h3 } := by
        rw [hf]
        refine HandSPX.setFlight_upZ fl3 fun h4 hh4 up4 => wpAny_throw (tk _ _ ?_)
        exact ⟨a, B, sI, pins, σ', H', cls, d, rfl, J, nb, (up.trans up3).trans up4,
          .inr (.inr (by rw [hs]; exact hh4)), na, os, ag, hno rfl⟩
      first
        | exact wpAny_bind (wpAny_pure (wpAny_bind fin))
        | exact wpAny_bind fin
  · match f, hsp with
    | .next, ⟨σ', H', J', q⟩ => exact wpAny_execs_nil ⟨σ', H', J'.ofTry ok, q⟩
    | .brk, ⟨σ', H', J', q⟩ => exact ⟨σ', H', J'.ofTry ok, q⟩
    | .cont, ⟨σ', H', J', q⟩ => exact ⟨σ', H', J'.ofTry ok, q⟩
    | .ret u, ⟨v, σ', H', J', r, q⟩ => exact ⟨v, σ', H', J'.ofTry ok, r, q⟩
end
end BL
set_option Elab.async false
set_option linter.all false
set_option maxRecDepth 100000
set_option maxHeartbeats 4000000
namespace BL
open PySem PySem.Spec PyProof.Rows L2
open He (ga ma ba eqO eqO_ok)
/-! ### the head's facts, and one Bool more over the part of the heap -/
def hookB (n : Nat) (fa : List He.Fa) (fn : List He.DefD) (ex : PySem.W.Frag → Bool) : PySem.W.Hook where
  α := Bool × He.AlD
  obs := fun s => (ex (He.frG s.heap.get? (He.asD s.heap.get? n)), He.obsDG n fa fn s.heap.get?)
  val := fun _ => (true, He.valD fn)
  says := fun _ h => ∃ K : PySem.W.Frag, K.In h ∧ He.SaysD fa fn K ∧ ex K = true
  of := fun _ _ e => ⟨_, He.frG_in, congrArg Prod.snd e, congrArg Prod.fst e⟩
  keeps := fun _ _ _ ⟨K, hK, c⟩ k => ⟨K, PySem.W.Frag.In.keeps hK k, c⟩
def obB (n : Nat) (fa : List He.Fa) (fn : List He.DefD) (ex : PySem.W.Frag → Bool) (s : PySem.W.SharedT) : Bool × He.AlD :=
  (ex (He.frG (HandSHeadRun.getT s) (He.asD (HandSHeadRun.getT s) n)), He.obsDG n fa fn (HandSHeadRun.getT s))
theorem obB_eq {n : Nat} {fa : List He.Fa} {fn : List He.DefD} {ex : PySem.W.Frag → Bool} (s : PySem.W.SharedT) : obB n fa fn ex s = (hookB n fa fn ex).obs s.abs := by
  have e : HandSHeadRun.getT s = s.abs.heap.get? := funext (HandSHeadRun.getT_eq s)
  unfold obB
  rw [e] <;> rfl
/-! ### the classes -/
def veTail : List Value := [.type "ValueError", .type "Exception", .type "BaseException", .type "object"]
/-- the class at C: its mro is itself, then up -/
def clsB (K : PySem.W.Frag) (C : Addr) (up : List Value) : Bool := match K.lookup C with
  | some ⟨.type "type", _, .cls cd, sl⟩ => (match sl.toList with
    | [_, _, _, _, some (.builtin n), _] => decide (cd.mro = .ref C :: up) && decide (cd.hasDict = true) && decide (cd.hasDel = false) && decide (n = "ValueError.__new__")
    | _ => false)
  | _ => false
def oneB (K : PySem.W.Frag) (C fI : Addr) (up : List Value) : Bool :=
  clsB K C up && (eqO (PySem.W.findIn K (.ref C) "__setattr__") (some (some (.builtin "object.__setattr__"))) && (eqO (PySem.W.findIn K (.ref C) "__getattribute__") (some (some (.builtin "BaseException.__getattribute__"))) &&
    (eqO (PySem.W.findIn K (.ref C) "__getattr__") (some none) && (eqO (PySem.W.findIn K (.ref C) "value") (some none) && (eqO (PySem.W.findIn K (.ref C) "__init__") (some (some (.ref fI))) &&
      (eqO (PySem.W.findIn K (.ref C) "__class__") (some (some (.builtin "object.__class__"))) && (PySem.W.keepIn K (.ref C) && decide (PySem.W.typeIn K (.ref C) = some (.type "type")))))))))
/-- LampError at the name b, the other classes xs directly below it -/
def excB (K : PySem.W.Frag) (b : Str) (xs : List Str) : Bool :=
  oneB K (ga K b) (ma K (ga K b) "__init__") veTail && (xs.all (fun x => oneB K (ga K x) (ma K (ga K b) "__init__") (.ref (ga K b) :: veTail)) &&
    (decide ((ga K b :: xs.map (ga K)).Nodup) && (decide (PySem.W.typeIn K (.ref (ma K (ga K b) "__init__")) = some (.type "function")) &&
      (eqO (PySem.W.specialIn K (.builtin "object.__class__") "__get__") (some (some (.builtin "getset_descriptor.__get__"))) && decide (PySem.W.takesIn K (.builtin "object.__class__") = some true)))))
end BL
set_option Elab.async false
set_option linter.all false
set_option maxRecDepth 100000
set_option maxHeartbeats 4000000
namespace BL
open PySem PySem.Spec PyProof.Rows L2
open He (ga ma ba eqO eqO_ok)
theorem cls_of {K : PySem.W.Frag} {C : Addr} {up : List Value} (h : clsB K C up = true) :
    ∃ nm q N bs sn sub ab col dd k0 k1 k2 k3 k5, K.lookup C = some (excClassObj nm q C N bs up true sn sub ab col dd k0 k1 k2 k3 k5 "ValueError.__new__") := by
  unfold clsB at h
  cases e : K.lookup C with
  | none => rw [e] at h; cases h
  | some o =>
    obtain ⟨oc, od, dt, ⟨sl⟩⟩ := o
    rw [e] at h
    cases oc with
    | type n =>
      cases dt with
      | cls cd =>
        by_cases hn : n = "type"
        · subst hn
          match sl, h with
          | [k0, k1, k2, k3, some (.builtin m), k5], h =>
            obtain ⟨h, h4⟩ := ba h
            obtain ⟨h, h3⟩ := ba h
            obtain ⟨h1, h2⟩ := ba h
            have e1 := of_decide_eq_true h1
            have e2 := of_decide_eq_true h2
            have e3 := of_decide_eq_true h3
            have e4 := of_decide_eq_true h4
            obtain ⟨a1, a2, a3, a4, a5, a6, a7, a8, a9, a10, a11⟩ := cd
            dsimp only at e1 e2 e3
            subst e1 e2 e3 e4
            exact ⟨_, _, _, _, _, _, _, _, _, _, _, _, _, _, rfl⟩
        · exfalso
          revert h
          split
          · rename_i q
            have := Option.some.inj q
            injection this with z1 z2 z3 z4
            injection z1 with z1
            exact absurd z1 hn
          · exact fun z => nomatch z
      | _ => exact absurd h (by simp)
    | _ => exact absurd h (by simp)
theorem mro_of {K : PySem.W.Frag} {C : Addr} {up : List Value} (h : clsB K C up = true) (v : Value) : PySem.W.mroIn K C v = some ((Value.ref C :: up).contains v) := by
  obtain ⟨nm, q, N, bs, sn, sub, ab, col, dd, k0, k1, k2, k3, k5, e⟩ := cls_of h
  unfold PySem.W.mroIn PySem.W.clsIn
  rw [e]
  rfl
theorem isc_of {K : PySem.W.Frag} {C : Addr} {up : List Value} (h : clsB K C up = true) : (PySem.W.clsIn K C).isSome = true ∧ PySem.W.hasDictIn K C = true := by
  obtain ⟨nm, q, N, bs, sn, sub, ab, col, dd, k0, k1, k2, k3, k5, e⟩ := cls_of h
  unfold PySem.W.hasDictIn PySem.W.clsIn
  rw [e]
  exact ⟨rfl, rfl⟩
/-- __init__ of the text -/
def InitAt (K : PySem.W.Frag) (fI : Addr) : Prop := ∃ (oc : Value) (od : Option Addr) (kV doc pm : Value) (an : Option Addr) (cdv ct : Value) (osl : Array (Option Value)) (p1 p2 q1 q2 q3 q4 : Pos),
  K.lookup fI = some ⟨oc, od, .func (PySem.W.fnOf "__init__" "LampError.__init__" (xA p1 p2) (xB q1 q2 q3 q4) xS .none kV doc pm an cdv ct), osl⟩ ∧ PySem.W.codeIn K cdv "LampError.__init__" = true
theorem init_of {K : PySem.W.Frag} {f : Addr} {fd : FuncData} {params : Arguments} {body : List Stmt} {scope : Scope} (F : FunD K "__init__" "LampError.__init__" params body scope [] [] f fd) {p1 p2 q1 q2 q3 q4 : Pos}
    (h1 : params = xA p1 p2) (h2 : body = xB q1 q2 q3 q4) (h3 : scope = xS) : InitAt K f := by
  subst h1 h2 h3
  obtain ⟨oc, od, dV, kV, doc, pm, an, cdv, ct, osl, rfl, lk, hcd, hD, _⟩ := F.ex
  rcases hD with ⟨_, rfl⟩ | ⟨e, _⟩
  · exact ⟨oc, od, kV, doc, pm, an, cdv, ct, osl, _, _, _, _, _, _, lk, hcd⟩
  · exact absurd rfl e
theorem ext_of {K : PySem.W.Frag} {C fI : Addr} {up : List Value} (h : oneB K C fI up = true) (r : HandSPX.refsVE up = true) (tI : PySem.W.typeIn K (.ref fI) = some (.type "function"))
    (hn : PySem.W.specialIn K (.builtin "object.__class__") "__get__" = some (some (.builtin "getset_descriptor.__get__"))) (ht : PySem.W.takesIn K (.builtin "object.__class__") = some true) (F : InitAt K fI) : ExT K C fI := by
  obtain ⟨c, h⟩ := ba h
  obtain ⟨sa, h⟩ := ba h
  obtain ⟨g, h⟩ := ba h
  obtain ⟨gg, h⟩ := ba h
  obtain ⟨nv, h⟩ := ba h
  obtain ⟨ic, h⟩ := ba h
  obtain ⟨hc, h⟩ := ba h
  obtain ⟨kp, ty⟩ := ba h
  have inU : ∀ T : String, veTail.contains (.type T) = true → PySem.W.mroIn K C (.type T) = some true := fun T z => by
    rw [mro_of c, List.contains_cons, HandSPX.refsVE_contains T up r, show HandSPX.veTail.contains (Value.type T) = true from z, Bool.or_true]
  obtain ⟨nm, q, N, bs, sn, sub, ab, col, dd, k0, k1, k2, k3, k5, e⟩ := cls_of c
  exact ⟨⟨nm, q, N, bs, up, sn, sub, ab, col, dd, k0, k1, k2, k3, k5, e, r⟩, eqO_ok sa, eqO_ok g, eqO_ok gg, eqO_ok nv, eqO_ok ic, tI, kp, inU "BaseException" (by decide +kernel),
    of_decide_eq_true ty, (isc_of c).2, eqO_ok hc, hn, ht, inU "object" (by decide +kernel), F⟩
/-- the table of all classes -/
structure Excs (K : PySem.W.Frag) (b : Str) (xs : List Str) (fI : Addr) : Prop where
  base : oneB K (ga K b) fI veTail = true
  subs : ∀ x ∈ xs, oneB K (ga K x) fI (.ref (ga K b) :: veTail) = true
  nd : (ga K b :: xs.map (ga K)).Nodup
  tI : PySem.W.typeIn K (.ref fI) = some (.type "function")
  hn : PySem.W.specialIn K (.builtin "object.__class__") "__get__" = some (some (.builtin "getset_descriptor.__get__"))
  ht : PySem.W.takesIn K (.builtin "object.__class__") = some true
  fn : InitAt K fI
theorem excs_of {K : PySem.W.Frag} {b : Str} {xs : List Str} (h : excB K b xs = true) (F : InitAt K (ma K (ga K b) "__init__")) : Excs K b xs (ma K (ga K b) "__init__") := by
  obtain ⟨h1, h⟩ := ba h
  obtain ⟨h2, h⟩ := ba h
  obtain ⟨h3, h⟩ := ba h
  obtain ⟨h4, h⟩ := ba h
  obtain ⟨h5, h6⟩ := ba h
  exact ⟨h1, fun x m => List.all_eq_true.mp h2 x m, of_decide_eq_true h3, of_decide_eq_true h4, eqO_ok h5, of_decide_eq_true h6, F⟩
section
variable {K : PySem.W.Frag} {b : Str} {xs : List Str} {fI : Addr}
theorem Excs.extB (T : Excs K b xs fI) : ExT K (ga K b) fI := ext_of T.base (by decide +kernel) T.tI T.hn T.ht T.fn
theorem Excs.ext (T : Excs K b xs fI) {x : Str} (m : x ∈ xs) : ExT K (ga K x) fI := ext_of (T.subs x m) (by show HandSPX.refsVE veTail = true; decide +kernel) T.tI T.hn T.ht T.fn
theorem Excs.clsS (T : Excs K b xs fI) {x : Str} (m : x ∈ xs) : clsB K (ga K x) (.ref (ga K b) :: veTail) = true := (ba (T.subs x m)).1
theorem Excs.clsT (T : Excs K b xs fI) : clsB K (ga K b) veTail = true := (ba T.base).1
theorem ty_of {K : PySem.W.Frag} {C fI : Addr} {up : List Value} (h : oneB K C fI up = true) : PySem.W.typeIn K (.ref C) = some (.type "type") := by
  obtain ⟨c, h⟩ := ba h
  obtain ⟨sa, h⟩ := ba h
  obtain ⟨g, h⟩ := ba h
  obtain ⟨gg, h⟩ := ba h
  obtain ⟨nv, h⟩ := ba h
  obtain ⟨ic, h⟩ := ba h
  obtain ⟨hc, h⟩ := ba h
  exact of_decide_eq_true (ba h).2
theorem kit_of {C D fI : Addr} {up up' : List Value} (h : clsB K C up = true) (h' : oneB K D fI up' = true) : PySem.W.kitOne K (.ref C) (.ref D) = some ((Value.ref C :: up).contains (.ref D)) := by
  have e2 : ((PySem.W.clsIn K D).isSome && PySem.W.typeIn K (.ref D) == some (.type "type")) = true := by
    rw [(isc_of (ba h').1).1, ty_of h'] <;> rfl
  unfold PySem.W.kitOne PySem.W.kitCls
  by_cases q : (Value.ref C == Value.ref D) = true
  · rw [if_pos q]
    rw [show (Value.ref C :: up).contains (.ref D) = true from by
      rw [List.contains_cons, show (Value.ref D == Value.ref C) = true from by rw [beq_iff_eq] at q ⊢; exact q.symm]; rfl]
  · rw [if_neg q]
    show (if ((PySem.W.clsIn K D).isSome && PySem.W.typeIn K (.ref D) == some (.type "type")) = true then PySem.W.mroIn K C (.ref D) else none) = _
    rw [if_pos e2, mro_of h]
theorem noRef (D : Addr) : veTail.contains (.ref D) = false := by
  unfold veTail
  simp
/-- isinstance of an error of the class x against y, both below b -/
theorem Excs.kit (T : Excs K b xs fI) {x y : Str} (m : x ∈ xs) (m' : y ∈ xs) : PySem.W.kitOne K (.ref (ga K x)) (.ref (ga K y)) = some (decide (y = x)) := by
  rw [kit_of (T.clsS m) (T.subs y m'), List.contains_cons, List.contains_cons, noRef]
  have nb : ga K y ≠ ga K b := fun z => (List.nodup_cons.mp T.nd).1 (z ▸ List.mem_map_of_mem m')
  have e1 : (Value.ref (ga K y) == Value.ref (ga K b)) = false := by simpa using nb
  rw [e1]
  by_cases q : y = x
  · subst q
    simp
  · have ne : ga K y ≠ ga K x := fun z => by
      have nd := (List.nodup_cons.mp T.nd).2
      obtain ⟨i, hi, ei⟩ := List.getElem_of_mem m
      obtain ⟨j, hj, ej⟩ := List.getElem_of_mem m'
      have := (List.getElem_inj (h₀ := by simpa using hj) (h₁ := by simpa using hi) nd).mp (by simp [ei, ej, z])
      subst this
      exact q (ej.symm.trans ei)
    have e2 : (Value.ref (ga K y) == Value.ref (ga K x)) = false := by simpa using ne
    rw [e2, decide_eq_false q]
    rfl
theorem Excs.kitB (T : Excs K b xs fI) {x : Str} (m : x ∈ xs) : PySem.W.kitOne K (.ref (ga K x)) (.ref (ga K b)) = some true := by
  rw [kit_of (T.clsS m) T.base]
  simp
theorem Excs.kitBB (T : Excs K b xs fI) : PySem.W.kitOne K (.ref (ga K b)) (.ref (ga K b)) = some true := by
  rw [kit_of T.clsT T.base]
  simp
/-- LampError itself is none of the classes below -/
theorem Excs.kitBS (T : Excs K b xs fI) {y : Str} (m : y ∈ xs) : PySem.W.kitOne K (.ref (ga K b)) (.ref (ga K y)) = some false := by
  rw [kit_of T.clsT (T.subs y m), List.contains_cons, noRef]
  have nb : ga K y ≠ ga K b := fun z => (List.nodup_cons.mp T.nd).1 (z ▸ List.mem_map_of_mem m)
  simpa using nb
theorem kit_ve {C : Addr} {up : List Value} (h : clsB K C up = true) (r : HandSPX.refsVE up = true) : PySem.W.kitOne K (.ref C) (.type "ValueError") = some true := by
  unfold PySem.W.kitOne PySem.W.kitCls
  rw [if_neg (by simp)]
  show (if PySem.W.kitMeta "ValueError" = true then PySem.W.mroIn K C (.type "ValueError") else none) = _
  rw [if_pos (by decide +kernel), mro_of h, List.contains_cons, HandSPX.refsVE_contains "ValueError" up r, show HandSPX.veTail.contains (Value.type "ValueError") = true from by decide +kernel, Bool.or_true]
theorem Excs.kitV (T : Excs K b xs fI) {x : Str} (m : x ∈ xs) : PySem.W.kitOne K (.ref (ga K x)) (.type "ValueError") = some true := kit_ve (T.clsS m) (by show HandSPX.refsVE veTail = true; decide +kernel)
theorem Excs.kitVB (T : Excs K b xs fI) : PySem.W.kitOne K (.ref (ga K b)) (.type "ValueError") = some true := kit_ve T.clsT (by decide +kernel)
theorem exm_of {C D fI : Addr} {up up' : List Value} (h : clsB K C up = true) (h' : oneB K D fI up' = true) (r : HandSPX.refsVE up' = true) : PySem.W.exmOne K (.ref C) (.ref D) = some ((Value.ref C :: up).contains (.ref D)) := by
  have e1 : PySem.W.subIn K (.ref D) (.type "BaseException") = some true := by
    show PySem.W.mroIn K D (.type "BaseException") = some true
    rw [mro_of (ba h').1, List.contains_cons, HandSPX.refsVE_contains "BaseException" up' r, show HandSPX.veTail.contains (Value.type "BaseException") = true from by decide +kernel, Bool.or_true]
  have e2 : ((PySem.W.clsIn K D).isSome && PySem.W.typeIn K (.ref D) == some (.type "type")) = true := by
    rw [(isc_of (ba h').1).1, ty_of h'] <;> rfl
  unfold PySem.W.exmOne PySem.W.kitCls
  rw [if_pos (by rw [e1] <;> rfl)]
  show (if ((PySem.W.clsIn K D).isSome && PySem.W.typeIn K (.ref D) == some (.type "type")) = true then PySem.W.mroIn K C (.ref D) else none) = _
  rw [if_pos e2, mro_of h]
theorem Excs.exm (T : Excs K b xs fI) {x : Str} (m : x ∈ xs) : PySem.W.exmOne K (.ref (ga K x)) (.ref (ga K b)) = some true := by
  rw [exm_of (T.clsS m) T.base (by decide +kernel)]
  simp
theorem Excs.exmB (T : Excs K b xs fI) : PySem.W.exmOne K (.ref (ga K b)) (.ref (ga K b)) = some true := by
  rw [exm_of T.clsT T.base (by decide +kernel)]
  simp
end
end BL
set_option Elab.async false
set_option linter.all false
set_option maxRecDepth 100000
set_option maxHeartbeats 4000000
namespace BL
open PySem PySem.Spec PyProof.Rows L2
/-! ### a def of the text by its name -/
structure DefOk (P : Program) (w : World) (K : PySem.W.Frag) (mg : Str → Option Value) (base : Heap) (x : Str) (k : Nat) (ps : List Str) (sp : Sp) : Prop where
  ex : ∃ f fd, mg x = some (.ref f) ∧ PySem.W.keepIn K (.ref f) = true ∧ Binds K fd ps [] ∧ FnG P w K mg base CX0 k f fd ps sp
section
variable {P : Program} {w : World} {K : PySem.W.Frag} {mg : Str → Option Value} {base : Heap} {x : Str} {k : Nat} {ps : List Str} {sp : Sp}
abbrev FnP (K : PySem.W.Frag) (x : Str) (st : Stmt) (f : Addr) (fd : FuncData) : Prop := FunD K x x (defArgs st) (defBody st) (defScope st) [] [] f fd
theorem def_mk {st : Stmt} {f : Addr} {fd : FuncData} (F : FnP K x st f fd) (m : mg x = some (.ref f)) (b : Binds K fd ps []) (G : FnG P w K mg base CX0 k f fd ps sp) : DefOk P w K mg base x k ps sp :=
  ⟨f, fd, m, F.kp, b, G⟩
/-- a weaker promise -/
theorem DefOk.imp {sp' : Sp} (D : DefOk P w K mg base x k ps sp) (h : ∀ v H Q E, sp' v H Q E → sp v H Q E) : DefOk P w K mg base x k ps sp' := by
  obtain ⟨f, fd, m, kp, b, G⟩ := D.ex
  exact ⟨f, fd, m, kp, b, ⟨fun v H Q E q => G.ln v H Q E (h _ _ _ _ q), fun A o s H a us vs Q E r g e bb rv q => G.go A o s H a us vs Q E r g e bb rv (h _ _ _ _ q)⟩⟩
theorem DefOk.mono {j : Nat} (D : DefOk P w K mg base x j ps sp) (h : j ≤ k) : DefOk P w K mg base x k ps sp := by
  obtain ⟨f, fd, m, kp, b, G⟩ := D.ex
  exact ⟨f, fd, m, kp, b, ⟨G.ln, fun A o s H a us vs Q E r => G.go A o s H a us vs Q E (r.mono h)⟩⟩
end
section
variable {X : Cx} {x : Str} {k : Nat} {ps : List Str} {sp : Sp} {p pos : Pos} {e : Expr} {es : List Expr} {t : TA}
theorem pe_d (D : DefOk X.prog X.w X.K X.mg X.base x k ps sp) (r : Room k X.A) (g : X.A.guards = some []) (hg : Gl X x) (ha : PA X (e :: es) t) (hdb : (x == ("__debug__" : Str)) = false := by decide)
    (he : starEach (e :: es) X.env = (false, eval e X.env) :: starEach es X.env := by rfl) (hpl : (backTo pos (starEach es X.env)).any (·.1) = false := by rfl) :
    PE X (.Call (.Name x p) (e :: es) [] pos) (tCall sp [] E0 t) := by
  obtain ⟨f, fd, m, kp, b, G⟩ := D.ex
  exact pe_callG G r g hg m kp b .nil pass0 ha hdb he hpl
end
/-! ### draws: the pot is a list of three ints -/
/-- at p the pot: its counter is n at the most -/
def Pot (H : Hp) (p : Addr) (n : Nat) : Prop := ∃ a b c : Int, H p = some (.lst [.int a, .int b, .int c]) ∧ 0 ≤ a ∧ a.natAbs < 2 ^ 1000 ∧ 0 ≤ b ∧ b < 2305843009213693952 ∧ 0 ≤ c ∧ c ≤ n
/-- all but p stands -/
def But (p : Addr) (H H' : Hp) : Prop := ∀ b o, b ≠ p → H b = some o → H' b = some o
theorem But.refl (p : Addr) (H : Hp) : But p H H := fun _ _ _ h => h
theorem But.trans {p : Addr} {H H1 H2 : Hp} (a : But p H H1) (b : But p H1 H2) : But p H H2 := fun c o n h => b c o n (a c o n h)
theorem But.of {p : Addr} {H H' : Hp} (e : Same H H') : But p H H' := fun b o _ h => e b o h
theorem But.put {p : Addr} {H : Hp} {o : HO} : But p H (upd H p o) := fun b u n h => by rw [upd_ne n]; exact h
theorem Pot.mono {H : Hp} {p : Addr} {n m : Nat} (h : Pot H p n) (k : n ≤ m) : Pot H p m := by
  obtain ⟨a, b, c, e, h1, h2, h3, h4, h5, h6⟩ := h
  exact ⟨a, b, c, e, h1, h2, h3, h4, h5, by omega⟩
theorem Pot.same {H H' : Hp} {p : Addr} {n : Nat} (h : Pot H p n) (k : Same H H') : Pot H' p n := by
  obtain ⟨a, b, c, e, r⟩ := h
  exact ⟨a, b, c, k _ _ e, r⟩
theorem Same.new {H : Hp} {q : Addr} {o : HO} (h : H q = none) : Same H (upd H q o) := fun b u e => by
  rw [upd_ne (ne_of_none e h)]
  exact e
/-- the pot that a place of the script gives -/
def spPot (K : PySem.W.Frag) : Sp := fun vs H Q _ => ∃ (s : Addr) (ns : List Int) (i : Nat), vs = [.ref s, .int i] ∧ SqL K H s (ns.map V.int) ∧ ns.length ≤ 63 ∧ i ≤ 100 ∧ (∀ z ∈ ns, Builtin.Int.intBits z ≤ 1048576) ∧
  ∀ H' p, H p = none → Same H H' → Pot H' p 0 → Q (.ref p) H'
/-- one draw below u -/
def spTake : Sp := fun vs H Q _ => ∃ (p : Addr) (u : Int) (n : Nat), vs = [.ref p, .int u] ∧ 0 < u ∧ u < 1073741824 ∧ Pot H p n ∧ n ≤ 1000000 ∧
  ∀ H' (d : Int), But p H H' → Pot H' p (n + 1) → 0 ≤ d → d < u → Q (.int d) H'
/-- one of a list's items -/
def spOf (K : PySem.W.Frag) : Sp := fun vs H Q _ => ∃ (p l : Addr) (n : Nat) (xs : List V), vs = [.ref p, .ref l] ∧ p ≠ l ∧ SqL K H l xs ∧ xs ≠ [] ∧ xs.length < 1073741824 ∧ Pot H p n ∧ n ≤ 1000000 ∧
  (∀ H', But p H H' → SqL K H' l xs) ∧ ∀ H' v, But p H H' → Pot H' p (n + 1) → v ∈ xs → Q v H'
/-- the places that are looked at -/
def spCells (K : PySem.W.Frag) : Sp := fun vs H Q _ => ∃ (s : Addr) (ns : List Int) (u : Int), vs = [.ref s, .int u] ∧ SqL K H s (ns.map V.int) ∧ ns.length ≤ 63 ∧ 1 ≤ u ∧ u ≤ 100 ∧
  ∀ (p : Addr) (m : Nat), H p = none → m ≤ 100 → Q (.ref p) (upd H p (.lst ((List.range m).map fun i => V.int (i : Nat))))
end BL
set_option Elab.async false
set_option linter.all false
set_option maxRecDepth 100000
set_option maxHeartbeats 4000000
namespace BL
open PySem PySem.Spec PyProof.Rows L2
/-! ### values of any kind -/
/-- v may be shown -/
def Good (K : PySem.W.Frag) (H : Hp) (v : V) : Prop := ∃ d, Dq K H v d ∧ d.showable = true ∧ d.depth ≤ 40 ∧ d.shown.length ≤ sizeLine
theorem Good.same {K : PySem.W.Frag} {H H' : Hp} {v : V} (h : Good K H v) (k : Same H H') : Good K H' v := let ⟨d, a, b⟩ := h; ⟨d, a.same k, b⟩
/-- the heap without p -/
def cut (H : Hp) (p : Addr) : Hp := fun b => if b = p then none else H b
theorem cut_at {H : Hp} {p a : Addr} {o : HO} (n : a ≠ p) (h : H a = some o) : cut H p a = some o := (if_neg n).trans h
theorem cut_same {H H' : Hp} {p : Addr} (k : Same H H') : Same (cut H p) (cut H' p) := fun b o e => by
  unfold cut at e ⊢
  by_cases hb : b = p
  · rw [if_pos hb] at e; cases e
  · rw [if_neg hb] at e ⊢
    exact k b o e
theorem cut_but {H H' : Hp} {p : Addr} (k : But p H H') : Same (cut H p) H' := fun b o e => by
  unfold cut at e
  by_cases hb : b = p
  · rw [if_pos hb] at e; cases e
  · rw [if_neg hb] at e
    exact k b o hb e
theorem cut_le {H : Hp} {p : Addr} : Same (cut H p) H := cut_but (But.refl p H)
def Acc (K : PySem.W.Frag) (H : Hp) (L : List V) : Prop := ∀ v ∈ L, Good K H v
theorem Acc.nil {K : PySem.W.Frag} {H : Hp} : Acc K H [] := fun _ h => nomatch h
theorem Acc.put {K : PySem.W.Frag} {H H' : Hp} {L : List V} {v : V} (a : Acc K H L) (s : Same H H') (g : Good K H' v) : Acc K H' (v :: L) := fun u h => by
  rcases List.mem_cons.mp h with rfl | h
  · exact g
  · exact (a u h).same s
/-- a new object beside the pot, the heap a letter from here -/
theorem newO {H : Hp} {o op : HO} {p : Addr} {Q : VK} (hp : H p = some op) (h : ∀ a H', Same H H' → H' p = some op → cut H' p a = some o → Q (.ref a) H') : ∀ a, H a = none → Q (.ref a) (upd H a o) := fun a ha =>
  h a _ (Same.new ha) ((upd_ne (ne_of_none hp ha)).trans hp) (cut_at (Ne.symm (ne_of_none hp ha)) upd_same)
theorem newL {H : Hp} {p a : Addr} {op : HO} (o : HO) (hp : H p = some op) (ha : H a = none) : ∃ G, Same H G ∧ G p = some op ∧ cut G p a = some o ∧ upd H a o = G :=
  ⟨_, Same.new ha, (upd_ne (ne_of_none hp ha)).trans hp, cut_at (Ne.symm (ne_of_none hp ha)) upd_same, rfl⟩
section
variable {K : PySem.W.Frag} {H : Hp}
theorem good_non : Good K H .non := ⟨_, .of .non, rfl, by decide, by decide +kernel⟩
theorem good_bl (b : Bool) : Good K H (.bl b) := ⟨_, .of (.bl b), rfl, by show 0 ≤ 40; decide, by cases b <;> decide +kernel⟩
theorem good_int (i : Int) (h : (PyData.int i).showable = true := by decide +kernel) (z : (PyData.int i).shown.length ≤ sizeLine := by decide +kernel) : Good K H (.int i) := ⟨_, .of (.int i), h, by show 0 ≤ 40; decide, z⟩
theorem good_str (x : Str) (z : (PyData.str x).shown.length ≤ sizeLine := by decide +kernel) : Good K H (.str x) := ⟨_, .of (.str x), rfl, by show 0 ≤ 40; decide, z⟩
theorem good_of {v : V} {d : PyData} (h : Dp K H v d) (a : d.showable = true := by decide +kernel) (b : d.depth ≤ 40 := by decide +kernel) (z : d.shown.length ≤ sizeLine := by decide +kernel) : Good K H v := ⟨d, .of h, a, b, z⟩
theorem good_q {v : V} {d : PyData} (h : Dq K H v d) (a : d.showable = true := by decide +kernel) (b : d.depth ≤ 40 := by decide +kernel) (z : d.shown.length ≤ sizeLine := by decide +kernel) : Good K H v := ⟨d, h, a, b, z⟩
theorem dp_t {a : Addr} {xs : List V} {ds : List PyData} (h : H a = some (.tup xs)) (b : DpAll K H xs ds) : Dp K H (.ref a) (.tuple ds) := .tup (SqT.of h) b
theorem dp_l {a : Addr} {xs : List V} {ds : List PyData} (h : H a = some (.lst xs)) (b : DpAll K H xs ds) : Dp K H (.ref a) (.list ds) := .lst (SqL.of h) b
end
/-- a value of any kind, of a menu -/
def spOdd (K : PySem.W.Frag) : Sp := fun vs H Q _ => ∃ (p : Addr) (n : Nat), vs = [.ref p] ∧ Pot H p n ∧ n ≤ 1000000 ∧
  ∀ H' v, But p H H' → Pot H' p (n + 1) → Good K H' v → Q v H'
end BL
set_option Elab.async false
set_option linter.all false
set_option maxRecDepth 100000
set_option maxHeartbeats 4000000
namespace BL
open PySem PySem.Spec PyProof.Rows L2
open He (ga)
/-- isinstance of an error of the class x against the class y below LampError -/
theorem Excs.kitA {K : PySem.W.Frag} {b : Str} {xs : List Str} {fI : Addr} (T : Excs K b xs fI) {x y : Str} (hb : b ∉ xs) (m : x ∈ b :: xs) (m' : y ∈ xs) : PySem.W.kitOne K (.ref (ga K x)) (.ref (ga K y)) = some (decide (y = x)) := by
  rcases List.mem_cons.mp m with rfl | m
  · rw [T.kitBS m', decide_eq_false (fun z => hb (by rw [← z]; exact m'))]
  · exact T.kit m m'
theorem Excs.kitA0 {K : PySem.W.Frag} {b : Str} {xs : List Str} {fI : Addr} (T : Excs K b xs fI) {x : Str} (m : x ∈ b :: xs) : PySem.W.kitOne K (.ref (ga K x)) (.ref (ga K b)) = some true := by
  rcases List.mem_cons.mp m with rfl | m
  · exact T.kitBB
  · exact T.kitB m
theorem Excs.kitAV {K : PySem.W.Frag} {b : Str} {xs : List Str} {fI : Addr} (T : Excs K b xs fI) {x : Str} (m : x ∈ b :: xs) : PySem.W.kitOne K (.ref (ga K x)) (.type "ValueError") = some true := by
  rcases List.mem_cons.mp m with rfl | m
  · exact T.kitVB
  · exact T.kitV m
theorem Excs.extA {K : PySem.W.Frag} {b : Str} {xs : List Str} {fI : Addr} (T : Excs K b xs fI) {x : Str} (m : x ∈ b :: xs) : ExT K (ga K x) fI := by
  rcases List.mem_cons.mp m with rfl | m
  · exact T.extB
  · exact T.ext m
theorem Excs.exmA {K : PySem.W.Frag} {b : Str} {xs : List Str} {fI : Addr} (T : Excs K b xs fI) {x : Str} (m : x ∈ b :: xs) : PySem.W.exmOne K (.ref (ga K x)) (.ref (ga K b)) = some true := by
  rcases List.mem_cons.mp m with rfl | m
  · exact T.exmB
  · exact T.exm m
/-- an object that is not of before may change -/
theorem Same.mut {H0 H : Hp} {p : Addr} {o : HO} (S : Same H0 H) (h0 : H0 p = none) : Same H0 (upd H p o) := fun b u e => by
  rw [upd_ne (ne_of_none e h0)]
  exact S b u e
theorem Bears.mut {H : Hp} {e C p : Addr} {v : V} {xs : List V} {o : HO} (b : Bears H e C v) (hp : H p = some (.lst xs)) : Bears (upd H p o) e C v := by
  obtain ⟨d, h1, h2⟩ := b
  refine ⟨d, ?_, ?_⟩
  · rw [upd_ne (ne_of h1 hp fun z => by unfold ExV at z; cases z)]; exact h1
  · rw [upd_ne (ne_of h2 hp fun z => by cases z)]; exact h2
/-- found.extend([y] if isinstance(error, Y) else []) -/
def rW (K : PySem.W.Frag) (y : Str) : TS := tDrop (tBM K "list" rExtend (tVar 1) (tCons (tIf (tB (tCB (rIsV K) (tCons (tVar 0) (tCons (tC (V.ref (ga K y))) tNil)))) (tLst (tCons (tC (V.str y)) tNil)) (tLst tNil)) tNil))
theorem w_step {K : PySem.W.Frag} {b : Str} {xs : List Str} {fI : Addr} (T : Excs K b xs fI) (hb : b ∉ xs) {x y : Str} (m : x ∈ b :: xs) (m' : y ∈ xs) {v : V} {e p : Addr} {pre : List Str} {D : Ends} {H0 H : Hp}
    (B : Bears H e (ga K x) v) (hp : H p = some (.lst ((pre.filter fun y => decide (y = x)).map V.str))) (hl : pre.length ≤ 1000) (S : Same H0 H) (h0 : H0 p = none)
    (k : ∀ H', Bears H' e (ga K x) v → H' p = some (.lst (((pre ++ [y]).filter fun y => decide (y = x)).map V.str)) → Same H0 H' → D.nx [some (.ref e), some (.ref p)] H') : rW K y D [some (.ref e), some (.ref p)] H := by
  refine ⟨_, rfl, .inl ⟨rfl, _, SqL.of hp⟩, _, rfl, e, ga K x, fI, v, V.ref (ga K y), .ref (ga K y), _, rfl, T.extA m, B, fun u r => r, T.kitA hb m m', _, rfl, ?_⟩
  have fin : ∀ (zs : List Str), zs = ([y].filter fun y => decide (y = x)) → (zs.map V.str).length ≤ sizeLine → ∀ q, H q = none → rExtend (V.ref p) [V.ref q] (upd H q (.lst (zs.map V.str))) fun _ H' => D.nx [some (.ref e), some (.ref p)] H' := by
    intro zs hz _ q hq
    have hp' : upd H q (.lst (zs.map V.str)) p = some (.lst ((pre.filter fun y => decide (y = x)).map V.str)) := by rw [upd_ne (ne_of_none hp hq)]; exact hp
    refine ⟨p, q, _, _, rfl, rfl, hp', upd_same, ?_, ?_⟩
    · have h1 := List.length_filter_le (fun y => decide (y = x)) pre
      have h2 : zs.length ≤ 1 := by rw [hz]; exact List.length_filter_le _ _
      rw [List.length_map, List.length_map, sizeLine_eq]
      omega
    · refine k _ ((B.same (Same.new hq)).mut hp') ?_ (BL.Same.mut (S.trans (Same.new hq)) h0)
      rw [upd_same, List.filter_append, hz, List.map_append]
  by_cases q : y = x
  · rw [decide_eq_true q]
    refine iteT ⟨by show 1 ≤ sizeLine; decide, fin [y] (by simp [q]) (by show 1 ≤ sizeLine; decide)⟩
  · rw [decide_eq_false q]
    refine iteF ⟨by show 0 ≤ sizeLine; decide, fin [] (by simp [q]) (by show 0 ≤ sizeLine; decide)⟩
/-! ### errors in a list, each beside its word -/
def MadeAt (K : PySem.W.Frag) (v : V) (H : Hp) (x : Str) (it : V) : Prop := ∃ t e, it = .ref t ∧ H t = some (.tup [.str x, .ref e]) ∧ Bears H e (ga K x) v
def Made (K : PySem.W.Frag) (v : V) (H : Hp) (ws : List Str) (its : List V) : Prop := Paired (MadeAt K v H) ws its
theorem MadeAt.same {K : PySem.W.Frag} {v : V} {H H' : Hp} {x : Str} {it : V} (h : MadeAt K v H x it) (k : Same H H') : MadeAt K v H' x it := let ⟨t, e, a, b, c⟩ := h; ⟨t, e, a, k _ _ b, c.same k⟩
theorem MadeAt.mut {K : PySem.W.Frag} {v : V} {H : Hp} {x : Str} {it : V} {p : Addr} {xs : List V} {o : HO} (h : MadeAt K v H x it) (hp : H p = some (.lst xs)) : MadeAt K v (upd H p o) x it := by
  obtain ⟨t, e, a, b, c⟩ := h
  refine ⟨t, e, a, ?_, c.mut hp⟩
  rw [upd_ne (ne_of b hp fun z => by cases z)]; exact b
theorem Made.same {K : PySem.W.Frag} {v : V} {H H' : Hp} {ws : List Str} {its : List V} (h : Made K v H ws its) (k : Same H H') : Made K v H' ws its := Paired.mapP h fun _ _ q => q.same k
theorem Made.mut {K : PySem.W.Frag} {v : V} {H : Hp} {ws : List Str} {its : List V} {p : Addr} {xs : List V} {o : HO} (h : Made K v H ws its) (hp : H p = some (.lst xs)) : Made K v (upd H p o) ws its := Paired.mapP h fun _ _ q => q.mut hp
theorem Made.snoc {K : PySem.W.Frag} {v : V} {H : Hp} : ∀ {ws : List Str} {its : List V} {x : Str} {it : V}, Made K v H ws its → MadeAt K v H x it → Made K v H (ws ++ [x]) (its ++ [it])
  | _, _, _, _, .nil, m => .cons m .nil
  | _, _, _, _, .cons a b, m => .cons a (Made.snoc b m)
theorem Made.app {K : PySem.W.Frag} {v : V} {H : Hp} : ∀ {ws : List Str} {its : List V} {ws' : List Str} {its' : List V}, Made K v H ws its → Made K v H ws' its' → Made K v H (ws ++ ws') (its ++ its')
  | _, _, _, _, .nil, m => m
  | _, _, _, _, .cons a b, m => .cons a (Made.app b m)
theorem Made.len {K : PySem.W.Frag} {v : V} {H : Hp} {ws : List Str} {its : List V} (h : Made K v H ws its) : ws.length = its.length := Paired.length h
/-- found.append((x, X(value))) -/
def rM (K : PySem.W.Frag) (x : Str) : TS := tDrop (tBM K "list" rAppend (tVar 1) (tCons (tTup (tCons (tC (V.str x)) (tCons (tMkE (ga K x) (tCons (tVar 0) tNil)) tNil))) tNil))
theorem pair_new {K : PySem.W.Frag} {H : Hp} {v : V} {x : Str} {Q : VK} (k : ∀ t H', Same H H' → H t = none → MadeAt K v H' x (.ref t) → Q (.ref t) H') :
    ∀ e d, H e = none → H d = none → d ≠ e → [V.str x, V.ref e].length ≤ sizeLine ∧ ∀ t, put2 H e (ga K x) d v t = none → Q (.ref t) (upd (put2 H e (ga K x) d v) t (.tup [V.str x, V.ref e])) := by
  intro e d he hd ne
  refine ⟨by show 2 ≤ sizeLine; decide, fun t ht => ?_⟩
  have s1 : Same H (put2 H e (ga K x) d v) := put2_same he hd
  exact k t _ (s1.trans (Same.new ht)) (s1.free ht) ⟨t, e, rfl, upd_same, (put2_bears ne).same (Same.new ht)⟩
theorem m_step {K : PySem.W.Frag} {x : Str} {v : V} {p : Addr} {ws : List Str} {its : List V} {D : Ends} {H0 H : Hp}
    (M : Made K v H ws its) (hp : H p = some (.lst its)) (hl : ws.length ≤ 1000) (S : Same H0 H) (h0 : H0 p = none)
    (k : ∀ H' it, Made K v H' (ws ++ [x]) (its ++ [it]) → H' p = some (.lst (its ++ [it])) → Same H0 H' → D.nx [some v, some (.ref p)] H') : rM K x D [some v, some (.ref p)] H := by
  refine ⟨_, rfl, .inl ⟨rfl, _, SqL.of hp⟩, _, rfl, v, rfl, ?_⟩
  refine pair_new (H := H) (Q := fun y H' => rAppend (V.ref p) [y] H' fun _ H2 => D.nx [some v, some (.ref p)] H2) fun t H' s ht m => ?_
  have hp' := s _ _ hp
  refine ⟨p, _, _, rfl, rfl, hp', ?_, ?_⟩
  · rw [← M.len, sizeLine_eq]; omega
  · exact k _ (.ref t) (((M.same s).snoc m).mut hp') upd_same (BL.Same.mut (S.trans s) h0)
def spMade (K : PySem.W.Frag) (ws : List Str) : Sp := fun vs H Q _ => ∃ (v : V), vs = [v] ∧ ∀ H' p its, H p = none → Same H H' → H' p = some (.lst its) → Made K v H' ws its → Q (.ref p) H'
end BL
set_option Elab.async false
set_option linter.all false
set_option maxRecDepth 100000
set_option maxHeartbeats 4000000
namespace BL
open PySem PySem.Spec PyProof.Rows L2
open He (ga)
/-- try: raise X(value) / except LampError as error: found.append(error); slots: value, found, error -/
def rTry (K : PySem.W.Frag) (b x : Str) : TS := fun D σ H => (fun W : WX => (fun (_ : Ends) (σ : L2.St) (H : Hp) => tMkX (ga K x) (tCons (tVar 0) tNil) σ H fun cls d H' => W cls d σ H')) (wKeep K (.ref (ga K b)) 2 (fun _ => tDrop (tBM K "list" rAppend (tVar 1) (tCons (tVar 2) tNil))) (fun _ _ _ _ => False) D) D σ H
theorem t_step {K : PySem.W.Frag} {b : Str} {xs : List Str} {fI : Addr} (T : Excs K b xs fI) {x : Str} (m : x ∈ b :: xs) {v : V} {p : Addr} {its : List V} {D : Ends} {H0 H : Hp}
    (hp : H p = some (.lst its)) (hl : its.length ≤ 1000) (S : Same H0 H) (h0 : H0 p = none)
    (k : ∀ H2 a, Bears H2 a (ga K x) v → H2 p = some (.lst (its ++ [.ref a])) → Same H0 H2 → (∀ e C u, Bears H e C u → Bears H2 e C u) → D.nx [some v, some (.ref p), none] H2) :
    rTry K b x D [some v, some (.ref p), none] H := by
  refine ⟨_, rfl, v, rfl, fun d hd => ⟨true, T.exmA m, fun _ a ha => ?_, fun q => nomatch q⟩⟩
  have pd : p ≠ d := ne_of_none hp hd
  have hp1 : upd H d (.xd [(("value" : Str), v)]) p = some (.lst its) := by rw [upd_ne pd]; exact hp
  have hd1 : upd H d (.xd [(("value" : Str), v)]) d = some (.xd [(("value" : Str), v)]) := upd_same
  have pa : p ≠ a := ne_of_none hp1 ha
  have da : d ≠ a := ne_of_none hd1 ha
  refine ⟨_, rfl, .inl ⟨rfl, _, SqL.of hp1⟩, _, rfl, p, _, _, rfl, rfl, hp1, by rw [sizeLine_eq]; omega, ga K x, d, rfl, rfl, ?_⟩
  have s1 : Same H (upd H d (.xd [(("value" : Str), v)])) := Same.new hd
  have ha2 : upd (upd H d (.xd [(("value" : Str), v)])) p (.lst (its ++ [.ref a])) a = none := by rw [upd_ne (Ne.symm pa)]; exact ha
  refine k _ a ⟨d, upd_same, ?_⟩ ?_ ?_ ?_
  · rw [upd_ne da, upd_ne (Ne.symm pd)]; exact hd1
  · rw [upd_ne pa, upd_same]
  · exact (BL.Same.mut (S.trans s1) h0).trans (Same.new ha2)
  · intro e C u B
    exact ((B.same s1).mut hp1).same (Same.new ha2)
end BL
set_option Elab.async false
set_option linter.all false
set_option maxRecDepth 100000
set_option maxHeartbeats 4000000
namespace BL
open PySem PySem.Spec PyProof.Rows L2
open He (ga)
theorem cut_upd {H : Hp} {D : Addr} {o : HO} : cut (upd H D o) D = cut H D := by
  funext b
  unfold cut
  by_cases h : b = D
  · rw [if_pos h, if_pos h]
  · rw [if_neg h, if_neg h, upd_ne h]
theorem dpAll_snoc {K : PySem.W.Frag} {H : Hp} {v : V} {d : PyData} (h : Dp K H v d) : ∀ {vs : List V} {ds : List PyData}, DpAll K H vs ds → DpAll K H (vs ++ [v]) (ds ++ [d])
  | _, _, .nil => .cons h .nil
  | _, _, .cons a b => .cons a (dpAll_snoc h b)
theorem dpAll_same {K : PySem.W.Frag} {H H' : Hp} (k : Same H H') : ∀ {vs : List V} {ds : List PyData}, DpAll K H vs ds → DpAll K H' vs ds
  | _, _, .nil => .nil
  | _, _, .cons a b => .cons (BL.Dp.same k _ _ a) (dpAll_same k b)
theorem dp_strs {K : PySem.W.Frag} {H : Hp} : ∀ zs : List Str, DpAll K H (zs.map V.str) (zs.map PyData.str)
  | [] => .nil
  | z :: zs => .cons (.str z) (dp_strs zs)
theorem getP {α β : Type} {F : α → β → Prop} : ∀ {xs : List α} {ys : List β} {i : Nat} {y : β}, Paired F xs ys → ys[i]? = some y → ∃ x, x ∈ xs ∧ F x y
  | _, _, 0, _, .cons a _, h => by cases h; exact ⟨_, .head _, a⟩
  | _, _, i + 1, _, .cons _ b, h => let ⟨x, m, f⟩ := getP (i := i) b h; ⟨x, .tail _ m, f⟩
/-- a comprehension over a list, each item's value data -/
theorem lc_dp {K : PySem.W.Frag} {a : Addr} {xs : List V} {g : TG} {tt : TT} {te : TE} {vs : List Nat} {σ : L2.St} {H1 : Hp} {D : Addr} {Qd : Hp → Prop} (ds : List PyData) (hD : H1 D = none) (ha : H1 a = some (.lst xs)) (hl : ds.length = xs.length) (hz : xs.length ≤ 1000)
    (hs : ∀ (i : Nat) (x : V) (d : PyData) (H : Hp) (Q : VK) (R : Hp → Prop), xs[i]? = some x → ds[i]? = some d → Same H1 H → H D ≠ none → (∀ y H', Same H H' → Dp K (cut H' D) y d → Q y H') → g x (wipe σ vs) H fun σ2 H2 => wipe σ2 vs = wipe σ vs ∧ tt σ2 H2 fun b H3 => if b = true then te σ2 H3 Q else R H3)
    (hd : ∀ H acc, H D = some (.lst acc) → Same H1 H → DpAll K H acc ds → Qd H) :
    ∃ W : Nat → Nat → Hp → Prop, (∃ m, W 0 m (upd H1 D (.lst []))) ∧ ∀ i m H, W i m H →
      ((Itl K a).stop i H ∧ Qd H) ∨ ((Itl K a).go i H ∧ ∃ Nx : Hp → Prop, (∀ H', Nx H' → ∃ m', m' < m ∧ W (i + 1) m' H') ∧ ∀ x H', (Itl K a).yld i H x H' → g x (wipe σ vs) H' fun σ2 H2 => wipe σ2 vs = wipe σ vs ∧ tt σ2 H2 fun b H3 =>
        if b = true then te σ2 H3 fun y H4 => ∃ acc, H4 D = some (.lst acc) ∧ acc.length < sizeLine ∧ Nx (upd H4 D (.lst (acc ++ [y]))) else Nx H3) := by
  refine lc_list (xs := xs) (fun i H' => ∃ acc, H' D = some (.lst acc) ∧ acc.length = i ∧ DpAll K (cut H' D) acc (ds.take i) ∧ Same H1 H') ⟨[], upd_same, rfl, by rw [List.take_zero]; exact .nil, Same.new hD⟩ (fun i H _ ⟨_, _, _, _, S⟩ => SqL.of (S _ _ ha)) ?_ ?_
  · rintro i x H hx ⟨acc, h1, h2, h3, h4⟩
    have hi : i < xs.length := (List.getElem?_eq_some_iff.mp hx).1
    have hd' : ds[i]? = some (ds[i]'(by omega)) := List.getElem?_eq_getElem _
    refine hs i x _ H _ _ hx hd' h4 (by rw [h1]; exact fun z => nomatch z) fun y H' s dy => ⟨acc, s _ _ h1, by rw [sizeLine_eq]; omega, acc ++ [y], upd_same, by rw [List.length_append, h2]; rfl, ?_, BL.Same.mut (h4.trans s) hD⟩
    rw [cut_upd, List.take_add_one, hd']
    exact dpAll_snoc dy (dpAll_same (cut_same s) h3)
  · rintro H ⟨acc, h1, h2, h3, h4⟩
    refine hd H acc h1 h4 ?_
    rw [← hl, List.take_length] at h3
    exact dpAll_same cut_le h3
theorem yes_if {te : TE} {σ : L2.St} {H : Hp} {Q : VK} {R : Hp → Prop} (h : te σ H Q) : tYes σ H fun b H3 => if b = true then te σ H3 Q else R H3 := by
  show if true = true then te σ H Q else R H
  rw [if_pos rfl]
  exact h
end BL
set_option Elab.async false
set_option linter.all false
set_option maxRecDepth 100000
set_option maxHeartbeats 0
namespace K00
open PySem PySem.Spec PyProof.Rows L2
/-! ### the text by places -/
def top (i : Nat) : Stmt := PySem.Challenge.pw_beatlamps_k00_errors_keep_what_they_are.main.body.getD i (.Pass ⟨0, 0, 0, 0⟩)
abbrev s_law_pot : Stmt := top 44
abbrev s_law_take : Stmt := top 45
abbrev s_law_of : Stmt := top 46
abbrev s_law_cells : Stmt := top 47
abbrev s_law_odd : Stmt := top 48
abbrev s_law_made : Stmt := top 49
abbrev s_law_more_made : Stmt := top 50
abbrev s_law_words : Stmt := top 51
abbrev s_law_more_words : Stmt := top 52
abbrev s_law_thrown : Stmt := top 53
abbrev s_law_right : Stmt := top 54
abbrev slaw : Stmt := top 55
def d_law_pot : He.DefD := ⟨("_law_pot", none), "_law_pot", "_law_pot", defArgs s_law_pot, defBody s_law_pot, defScope s_law_pot, [], []⟩
def d_law_take : He.DefD := ⟨("_law_take", none), "_law_take", "_law_take", defArgs s_law_take, defBody s_law_take, defScope s_law_take, [], []⟩
def d_law_of : He.DefD := ⟨("_law_of", none), "_law_of", "_law_of", defArgs s_law_of, defBody s_law_of, defScope s_law_of, [], []⟩
def d_law_cells : He.DefD := ⟨("_law_cells", none), "_law_cells", "_law_cells", defArgs s_law_cells, defBody s_law_cells, defScope s_law_cells, [], []⟩
def d_law_odd : He.DefD := ⟨("_law_odd", none), "_law_odd", "_law_odd", defArgs s_law_odd, defBody s_law_odd, defScope s_law_odd, [], []⟩
def d_law_made : He.DefD := ⟨("_law_made", none), "_law_made", "_law_made", defArgs s_law_made, defBody s_law_made, defScope s_law_made, [], []⟩
def d_law_more_made : He.DefD := ⟨("_law_more_made", none), "_law_more_made", "_law_more_made", defArgs s_law_more_made, defBody s_law_more_made, defScope s_law_more_made, [], []⟩
def d_law_words : He.DefD := ⟨("_law_words", none), "_law_words", "_law_words", defArgs s_law_words, defBody s_law_words, defScope s_law_words, [], []⟩
def d_law_more_words : He.DefD := ⟨("_law_more_words", none), "_law_more_words", "_law_more_words", defArgs s_law_more_words, defBody s_law_more_words, defScope s_law_more_words, [], []⟩
def d_law_thrown : He.DefD := ⟨("_law_thrown", none), "_law_thrown", "_law_thrown", defArgs s_law_thrown, defBody s_law_thrown, defScope s_law_thrown, [], []⟩
def d_law_right : He.DefD := ⟨("_law_right", none), "_law_right", "_law_right", defArgs s_law_right, defBody s_law_right, defScope s_law_right, [], []⟩
def dlaw : He.DefD := ⟨("law", none), "law", "law", defArgs slaw, defBody slaw, defScope slaw, [], []⟩
abbrev sInit : Stmt := inClass (top 1) 0
def dInit : He.DefD := ⟨("LampError", some "__init__"), "__init__", "LampError.__init__", defArgs sInit, defBody sInit, defScope sInit, [], []⟩
def fn : List He.DefD := [d_law_pot, d_law_take, d_law_of, d_law_cells, d_law_odd, d_law_made, d_law_more_made, d_law_words, d_law_more_words, d_law_thrown, d_law_right, dlaw, dInit]
def fa0 : List He.Fa := [.glo "_law_pot", .glo "_law_take", .glo "_law_of", .glo "_law_cells", .glo "_law_odd", .glo "_law_made", .glo "_law_more_made", .glo "_law_words", .glo "_law_more_words", .glo "_law_thrown", .glo "_law_right", .glo "law", .glo "LampError", .glo "BadPolynomial", .glo "Nought", .glo "BadBeats", .glo "TooLong", .glo "NoMeasure", .glo "BadSize", .glo "BadRule", .glo "NotEven", .glo "BadKind", .glo "BadRow", .glo "OtherSize", .glo "Garden", .glo "TooMany", .glo "Loses", .glo "BadNumber", .glo "BadSides", .glo "BadMiddle"]
def fa1 : List He.Fa := [.glo "BadFloor", .glo "Barred", .glo "NotPlain", .glo "TooHigh", .glo "NotQuiet", .glo "NoSpread", .glo "BadPicture", .glo "BadPlace", .glo "TooWide", .glo "Endless", .glo "BadLooks", .glo "BadLook", .glo "Held", .glo "Full", .glo "NoLook", .glo "Quarrel", .glo "BadOffers", .glo "BadPlaces", .glo "BadPresses", .glo "NothingToUndo", .glo "NothingToRedo", .glo "NoTrial", .glo "BadJournal", .glo "BadLine"]
def faF : List He.Fa := [.free "len", .free "int", .free "abs", .free "list", .free "range", .free "max", .free "min", .free "isinstance", .free "repr", .free "all", .free "ValueError"]
def fa : List He.Fa := faF ++ fa0 ++ fa1
def cl0 : List Str := ["BadPolynomial", "Nought", "BadBeats", "TooLong", "NoMeasure", "BadSize", "BadRule", "NotEven", "BadKind", "BadRow", "OtherSize", "Garden", "TooMany", "Loses", "BadNumber", "BadSides", "BadMiddle", "BadFloor", "Barred", "NotPlain", "TooHigh", "NotQuiet", "NoSpread", "BadPicture", "BadPlace", "TooWide", "Endless", "BadLooks", "BadLook", "Held"]
def cl1 : List Str := ["Full", "NoLook", "Quarrel", "BadOffers", "BadPlaces", "BadPresses", "NothingToUndo", "NothingToRedo", "NoTrial", "BadJournal", "BadLine"]
def cls : List Str := cl0 ++ cl1
def lo0 : List PySem.Str := ["LampError", "BadPolynomial", "Nought", "BadBeats", "TooLong", "NoMeasure", "BadSize", "BadRule", "NotEven", "BadKind", "BadRow", "OtherSize", "Garden", "TooMany", "Loses", "BadNumber", "BadSides", "BadMiddle", "BadFloor", "Barred", "NotPlain", "TooHigh", "NotQuiet", "NoSpread", "BadPicture", "BadPlace", "TooWide", "Endless", "BadLooks", "BadLook"]
def lo1 : List PySem.Str := ["Held", "Full", "NoLook", "Quarrel", "BadOffers", "BadPlaces", "BadPresses", "NothingToUndo", "NothingToRedo", "NoTrial", "BadJournal", "BadLine", "_law_pot", "_law_take", "_law_of", "_law_cells", "_law_odd", "_law_made", "_law_more_made", "_law_words", "_law_more_words", "_law_thrown", "_law_right"]
def loose : List PySem.Str := lo0 ++ lo1
abbrev R : PySem.W.OpenRow := PySem.W.OpenLaw.row PySem.Challenge.rw_beatlamps_k00_errors_keep_what_they_are
abbrev ex (K : PySem.W.Frag) : Bool := BL.excB K "LampError" cls
abbrev hk : PySem.W.Hook := BL.hookB 4 fa fn ex
theorem run (w : World) : HandSHeadRun.RunEq R (PySem.W.view R.prog [55]) hk (BL.obB 4 fa fn ex) 20000 loose w := by
  intro os
  kernel_rfl
end K00
set_option Elab.async false
set_option linter.all false
set_option maxRecDepth 100000
set_option maxHeartbeats 4000000
namespace K00
open PySem PySem.Spec PyProof.Rows L2 BL
local macro_rules | `(tactic| walk_at "rd") => `(tactic| (repeat (first
  | refine ⟨_, rfl, ?_⟩
  | refine ⟨_, _, rfl, rfl, ?_⟩
  | refine Or.inl ⟨_, rfl, ?_⟩
  | refine ⟨_, _, _, _, rfl, rfl, SqL.of (by assumption), rfl, ?_⟩)))
section
variable {P : Program} {w : World} {K : PySem.W.Frag} {mg : Str → Option Value} {base : Heap} {f : Addr} {fd : FuncData}
theorem prime_at (c : Int) (h : 0 ≤ c) : ∃ q, atI [V.int 2147483647, V.int 2147483629, V.int 2147483587, V.int 2147483579, V.int 2147483563] (c % 5) = some (V.int q) ∧ 0 < q ∧ q < 2147483648 := by
  have h1 : c % 5 = 0 ∨ c % 5 = 1 ∨ c % 5 = 2 ∨ c % 5 = 3 ∨ c % 5 = 4 := by omega
  rcases h1 with h | h | h | h | h <;> rw [h]
  · exact ⟨_, rfl, by decide, by decide⟩
  · exact ⟨_, rfl, by decide, by decide⟩
  · exact ⟨_, rfl, by decide, by decide⟩
  · exact ⟨_, rfl, by decide, by decide⟩
  · exact ⟨_, rfl, by decide, by decide⟩
theorem blend_small {b c : Int} (b0 : 0 ≤ b) (b1 : b < 2305843009213693952) (c0 : 0 ≤ c) (c1 : c ≤ 1000001) (k m : Int) (k0 : 0 ≤ k) (k1 : k < 200000) (m0 : 0 ≤ m) (m1 : m < 1000) : (b + k * c * c + m).natAbs < 2 ^ 64 := by
  have h1 : k * c ≤ 200000 * 1000001 := Int.mul_le_mul (by omega) c1 c0 (by decide)
  have h0 : 0 ≤ k * c := Int.mul_nonneg k0 c0
  have h2 : k * c * c ≤ (200000 * 1000001) * 1000001 := Int.mul_le_mul h1 c1 c0 (by decide)
  have h3 : 0 ≤ k * c * c := Int.mul_nonneg h0 c0
  generalize k * c * c = z at h2 h3
  omega
theorem sc_law_take : FnScope ["_law_pot_here", "_law_upto", "_law_digit", "_law_prime", "_law_blend"] ["_law_pot_here", "_law_upto"] (defScope s_law_take) := ⟨rfl, rfl, rfl, by decide +kernel, rfl, by decide +kernel, by decide +kernel⟩
theorem ok_law_take (F : FnP K "_law_take" s_law_take f fd) (hm : mg "_law_take" = some (.ref f)) (gint : mg "int" = none) : DefOk P w K mg base "_law_take" 1 ["_law_pot_here", "_law_upto"] spTake := by
  refine def_mk F hm (F.bindsN fun _ _ _ _ _ _ us hl => match us, hl with | [_, _], _ => rfl) (fnG_of F sc_law_take (fun v H Q E h => ?_) (fun cd A o s H vs Q E hr hg h => ?_))
  · obtain ⟨p, u, n, rfl, _⟩ := h; rfl
  · obtain ⟨p, u, n, rfl, u0, u1, ⟨a, b, c, hp, a0, a1, b0, b1, c0, c1⟩, hn, q⟩ := h
    refine ⟨_, (pss_cons (ps_if (pt_cmpR op_gt (pe_ix ix_list (pv 0) pe_int (fun _ _ => rfl)) pe_int (nomark _)) (pss_cons (ps_set (i := 2) sc_law_take.nd rfl (Or.inl rfl) (pe_op op_mod (pe_callTy call_int1 (by rfl) gint (by decide +kernel) (pa_cons (pe_ix ix_list (pv 0) pe_int (fun _ _ => rfl)) pa_nil)) (pv 1))) (pss_cons (ps_asg (pe_op op_fdiv (pe_ix ix_list (pv 0) pe_int (fun _ _ => rfl)) (pv 1)) (pg_sub (pv 0) pe_int set_list)) (pss_one (ps_ret (pv 2))))) pss_nil) (pss_cons (ps_asg (pe_op op_add (pe_ix ix_list (pv 0) pe_int (fun _ _ => rfl)) pe_int) (pg_sub (pv 0) pe_int set_list)) (pss_cons (ps_set (i := 3) sc_law_take.nd rfl (Or.inl rfl) (pe_ix ix_list (pe_lst (pa_cons pe_int (pa_cons pe_int (pa_cons pe_int (pa_cons pe_int (pa_cons pe_int pa_nil)))))) (pe_op op_mod (pe_callTy call_int1 (by rfl) gint (by decide +kernel) (pa_cons (pe_ix ix_list (pv 0) pe_int (fun _ _ => rfl)) pa_nil)) pe_int) (fun _ _ => rfl))) (pss_cons (ps_set (i := 4) sc_law_take.nd rfl (Or.inl rfl) (pe_op op_mod (pe_callTy call_int1 (by rfl) gint (by decide +kernel) (pa_cons (pe_op op_pow (pe_callTy call_int1 (by rfl) gint (by decide +kernel) (pa_cons (pe_op op_add (pe_op op_add (pe_ix ix_list (pv 0) pe_int (fun _ _ => rfl)) (pe_op op_mul (pe_op op_mul pe_int (pe_ix ix_list (pv 0) pe_int (fun _ _ => rfl))) (pe_ix ix_list (pv 0) pe_int (fun _ _ => rfl)))) pe_int) pa_nil)) pe_int) pa_nil)) (pv 3))) (pss_cons (ps_set (i := 4) sc_law_take.nd rfl (Or.inl rfl) (pe_op op_mod (pe_callTy call_int1 (by rfl) gint (by decide +kernel) (pa_cons (pe_op op_mul (pv 4) (pe_op op_add (pe_op op_mod (pe_callTy call_int1 (by rfl) gint (by decide +kernel) (pa_cons (pv 4) pa_nil)) pe_int) (pe_op op_mul pe_int (pe_ix ix_list (pv 0) pe_int (fun _ _ => rfl))))) pa_nil)) pe_int)) (pss_one (ps_ret (pe_op op_mod (pe_callTy call_int1 (by rfl) gint (by decide +kernel) (pa_cons (pe_op op_fdiv (pv 4) pe_int) pa_nil)) (pv 1))))))))), ?_⟩
    refine ⟨_, rfl, p, _, 0, _, rfl, rfl, SqL.of hp, rfl, ?_⟩
    refine ⟨_, _, rfl, rfl, _, rfl, ?_⟩
    refine ite2 (fun ht => ?_) (fun ht => ?_)
    · refine ⟨_, rfl, p, _, 0, _, rfl, rfl, SqL.of hp, rfl, .inl ⟨_, rfl, _, rfl, _, _, rfl, rfl, u0, ?_⟩⟩
      refine ⟨_, rfl, p, _, 0, _, rfl, rfl, SqL.of hp, rfl, _, rfl, _, _, rfl, rfl, ⟨u0, u1⟩, ?_⟩
      refine ⟨_, rfl, p, _, 0, 0, rfl, rfl, hp, rfl, _, rfl, ?_⟩
      refine q _ _ But.put ⟨_, _, _, upd_same, Int.ediv_nonneg a0 (Int.le_of_lt u0), ?_, b0, b1, c0, by omega⟩ (Int.emod_nonneg _ (by omega)) (Int.emod_lt_of_pos _ u0)
      have h1 : a / u ≤ a := Int.ediv_le_self _ a0
      have h2 : 0 ≤ a / u := Int.ediv_nonneg a0 (Int.le_of_lt u0)
      omega
    · refine ⟨_, rfl, p, _, 2, _, rfl, rfl, SqL.of hp, rfl, _, _, rfl, rfl, ?_⟩
      refine ⟨_, rfl, p, _, 2, 2, rfl, rfl, hp, rfl, ?_⟩
      have hp2 : upd H p (.lst [V.int a, V.int b, V.int (c + 1)]) p = some (.lst [V.int a, V.int b, V.int (c + 1)]) := upd_same
      obtain ⟨pr, hpr, q0, q1⟩ := prime_at (c + 1) (by omega)
      refine ⟨by show 5 ≤ sizeLine; decide, fun l hl => ?_⟩
      have hp3 : upd (upd H p (.lst [V.int a, V.int b, V.int (c + 1)])) l (.lst [V.int 2147483647, V.int 2147483629, V.int 2147483587, V.int 2147483579, V.int 2147483563]) p = some (.lst [V.int a, V.int b, V.int (c + 1)]) := by
        rw [upd_ne (ne_of_none hp2 hl)]; exact hp2
      refine ⟨_, rfl, p, _, 2, _, rfl, rfl, SqL.of hp3, rfl, .inl ⟨_, rfl, _, _, rfl, rfl, (by show (0 : Int) < 5; decide), ?_⟩⟩
      refine ⟨l, _, _, _, rfl, rfl, SqL.of upd_same, hpr, ?_⟩
      refine ⟨_, rfl, p, _, 1, _, rfl, rfl, SqL.of hp3, rfl, _, rfl, p, _, 2, _, rfl, rfl, SqL.of hp3, rfl, _, _, rfl, rfl, .inl ⟨by decide, by decide⟩, ?_⟩
      refine ⟨_, rfl, p, _, 2, _, rfl, rfl, SqL.of hp3, rfl, _, _, rfl, rfl, .inr ⟨by omega, by omega⟩, _, _, rfl, rfl, _, _, rfl, rfl, .inl ⟨_, rfl, ?_⟩⟩
      refine ⟨_, _, rfl, rfl, ⟨by decide, by decide, blend_small b0 b1 (by omega) (by omega) _ _ (by decide) (by decide) (by decide) (by decide)⟩, .inl ⟨_, rfl, _, rfl, _, _, rfl, rfl, q0, ?_⟩⟩
      have z0 : 0 ≤ (b + 103409 * (c + 1) * (c + 1) + 67) ^ Int.toNat 3 % pr := Int.emod_nonneg _ (by omega)
      have z1 : (b + 103409 * (c + 1) * (c + 1) + 67) ^ Int.toNat 3 % pr < pr := Int.emod_lt_of_pos _ q0
      refine ⟨_, rfl, _, rfl, .inl ⟨_, rfl, _, _, rfl, rfl, (by show (0 : Int) < 10459; decide), _, rfl, p, _, 2, _, rfl, rfl, SqL.of hp3, rfl, _, _, rfl, rfl, .inl ⟨by decide, by decide⟩, _, _, rfl, rfl, ?_⟩⟩
      refine ⟨_, _, rfl, rfl, .inl ⟨Int.lt_of_lt_of_le (by decide) z0, Int.lt_trans z1 (Int.lt_trans q1 (by decide))⟩, .inl ⟨_, rfl, _, _, rfl, rfl, (by show (0 : Int) < 2305843009213693907; decide), ?_⟩⟩
      refine ⟨_, rfl, _, _, rfl, rfl, ⟨by decide, by decide⟩, .inl ⟨_, rfl, _, rfl, _, _, rfl, rfl, u0, ?_⟩⟩
      refine q _ _ ?_ ⟨_, _, _, hp3, a0, a1, b0, b1, by omega, by omega⟩ (Int.emod_nonneg _ (by omega)) (Int.emod_lt_of_pos _ u0)
      exact But.put.trans (But.of (Same.new hl))
theorem sc_law_of : FnScope ["_law_pot_here", "_law_some"] ["_law_pot_here", "_law_some"] (defScope s_law_of) := ⟨rfl, rfl, rfl, by decide +kernel, rfl, by decide +kernel, by decide +kernel⟩
theorem ok_law_of (F : FnP K "_law_of" s_law_of f fd) (hm : mg "_law_of" = some (.ref f)) (glen : mg "len" = none) (D_law_take : DefOk P w K mg base "_law_take" 1 ["_law_pot_here", "_law_upto"] spTake) : DefOk P w K mg base "_law_of" 2 ["_law_pot_here", "_law_some"] (spOf K) := by
  refine def_mk F hm (F.bindsN fun _ _ _ _ _ _ us hl => match us, hl with | [_, _], _ => rfl) (fnG_of F sc_law_of (fun v H Q E h => ?_) (fun cd A o s H vs Q E hr hg h => ?_))
  · obtain ⟨p, l, n, xs, rfl, _⟩ := h; rfl
  · obtain ⟨p, l, n, xs, rfl, ne, hs, h0, h1, pot, hn, stays, q⟩ := h
    have hr_law_take := hr
    refine ⟨_, (pss_one (ps_ret (pe_ix ix_list (pv 1) (pe_d D_law_take hr_law_take hg rfl (pa_cons (pv 0) (pa_cons (pe_callB call_len_seq (by rfl) glen (by decide +kernel) (pa_cons (pv 1) pa_nil)) pa_nil))) (fun _ _ => rfl)))), ?_⟩
    have hz : 0 < xs.length := List.length_pos_iff.mpr h0
    refine ⟨_, rfl, _, rfl, _, rfl, l, xs, rfl, .inl hs, ?_⟩
    refine ⟨p, _, n, rfl, by omega, by omega, pot, hn, fun H' d b pt d0 d1 => ?_⟩
    obtain ⟨i, rfl⟩ := Int.eq_ofNat_of_zero_le d0
    have hi : i < xs.length := by omega
    exact ⟨l, xs, _, xs[i], rfl, rfl, stays H' b, atI_nat (List.getElem?_eq_getElem hi), q H' _ b pt (List.getElem_mem hi)⟩
theorem sc_law_cells : FnScope ["_law_script", "_law_limit"] ["_law_script", "_law_limit"] (defScope s_law_cells) := ⟨rfl, rfl, rfl, by decide +kernel, rfl, by decide +kernel, by decide +kernel⟩
theorem ok_law_cells (F : FnP K "_law_cells" s_law_cells f fd) (hm : mg "_law_cells" = some (.ref f)) (glen : mg "len" = none) (gmax : mg "max" = none) (gmin : mg "min" = none) (grange : mg "range" = none) (glist : mg "list" = none) :
    DefOk P w K mg base "_law_cells" 1 ["_law_script", "_law_limit"] (spCells K) := by
  refine def_mk F hm (F.bindsN fun _ _ _ _ _ _ us hl => match us, hl with | [_, _], _ => rfl) (fnG_of F sc_law_cells (fun v H Q E h => ?_) (fun cd A o s H vs Q E hr hg h => ?_))
  · obtain ⟨p, l, n, rfl, _⟩ := h; rfl
  · obtain ⟨p, ns, u, rfl, hs, hl, u0, u1, q⟩ := h
    refine ⟨_, (pss_one (ps_ret (pe_listRg rfl rfl glist (prg_1 rfl grange (pe_callB (call_max2 rfl) (by rfl) gmax (by decide +kernel) (pa_cons pe_int (pa_cons (pe_callB (call_min2 rfl) (by rfl) gmin (by decide +kernel) (pa_cons (pv 1) (pa_cons (pe_callB call_len_seq (by rfl) glen (by decide +kernel) (pa_cons (pv 0) pa_nil)) pa_nil))) pa_nil))))))), ?_⟩
    refine ⟨_, rfl, _, rfl, p, _, rfl, .inl hs, _, _, rfl, _, _, rfl, _, rfl, ?_⟩
    rw [List.length_map]
    have key : ∃ m : Nat, m ≤ 100 ∧ (if (if (ns.length : Int) < u then (ns.length : Int) else u) > 1 then (if (ns.length : Int) < u then (ns.length : Int) else u) else 1) = (m : Int) := by
      by_cases a : (ns.length : Int) < u
      · rw [if_pos a]
        by_cases b : (ns.length : Int) > 1
        · rw [if_pos b]; exact ⟨ns.length, by omega, rfl⟩
        · rw [if_neg b]; exact ⟨1, by omega, rfl⟩
      · rw [if_neg a]
        by_cases b : u > 1
        · rw [if_pos b]; exact ⟨u.toNat, by omega, by omega⟩
        · rw [if_neg b]; exact ⟨1, by omega, rfl⟩
    obtain ⟨m, m1, e⟩ := key
    rw [e]
    refine ⟨.of_le (by omega) (by omega) (by omega) (by omega), fun r hr => ?_⟩
    have e2 : rgV 0 (m : Int) = (List.range m).map fun i => V.int (i : Nat) := by
      unfold rgV
      simp
    rw [e2]
    exact q r m hr m1
theorem dig_ok (x : Int) (k : Bool) : CMul (x % (10 ^ Int.toNat 60) ^ Int.toNat 5) (if k = true then 1 else 0) ∧ 0 ≤ x % (10 ^ Int.toNat 60) ^ Int.toNat 5 * (if k = true then 1 else 0) ∧
    (x % (10 ^ Int.toNat 60) ^ Int.toNat 5 * (if k = true then 1 else 0)).natAbs < 2 ^ 1000 := by
  have n0 : (0 : Int) < (10 ^ Int.toNat 60) ^ Int.toNat 5 := by decide +kernel
  have h0 : 0 ≤ x % (10 ^ Int.toNat 60) ^ Int.toNat 5 := Int.emod_nonneg _ (Int.ne_of_gt n0)
  have h1 : x % (10 ^ Int.toNat 60) ^ Int.toNat 5 < (10 ^ Int.toNat 60) ^ Int.toNat 5 := Int.emod_lt_of_pos _ n0
  have h2 : ((10 ^ Int.toNat 60) ^ Int.toNat 5 : Int) < 2 ^ 1000 := by decide +kernel
  generalize x % (10 ^ Int.toNat 60) ^ Int.toNat 5 = z at h0 h1
  generalize ((10 ^ Int.toNat 60) ^ Int.toNat 5 : Int) = N at h1 h2
  cases k with
  | true =>
    refine ⟨.inr (by decide), ?_, ?_⟩
    · simpa using h0
    · simp only [if_true, Int.mul_one]; omega
  | false =>
    refine ⟨.inr (by decide), ?_, ?_⟩
    · simp
    · show (z * 0).natAbs < 2 ^ 1000
      rw [Int.mul_zero]
      exact Nat.two_pow_pos 1000
theorem sc_law_pot : FnScope ["_law_script", "_law_place", "_law_cell", "_law_digits", "_law_small"] ["_law_script", "_law_place"] (defScope s_law_pot) := ⟨rfl, rfl, rfl, by decide +kernel, rfl, by decide +kernel, by decide +kernel⟩
theorem ok_law_pot (F : FnP K "_law_pot" s_law_pot f fd) (hm : mg "_law_pot" = some (.ref f)) (glen : mg "len" = none) (gabs : mg "abs" = none) (gint : mg "int" = none) :
    DefOk P w K mg base "_law_pot" 1 ["_law_script", "_law_place"] (spPot K) := by
  refine def_mk F hm (F.bindsN fun _ _ _ _ _ _ us hl => match us, hl with | [_, _], _ => rfl) (fnG_of F sc_law_pot (fun v H Q E h => ?_) (fun cd A o s H vs Q E hr hg h => ?_))
  · obtain ⟨p, l, n, rfl, _⟩ := h; rfl
  · obtain ⟨p, ns, i, rfl, hs, hl, i1, hb, q⟩ := h
    refine ⟨_, (pss_cons (ps_set (i := 2) sc_law_pot.nd rfl (Or.inl rfl) (pe_ifExp (pt_cmpR op_lt (pv 1) (pe_callB call_len_seq (by rfl) glen (by decide +kernel) (pa_cons (pv 0) pa_nil)) (nomark _)) (pe_ix ix_list (pv 0) (pv 1) (fun _ _ => rfl)) (pe_op op_add (pe_op op_mul pe_int (pv 1)) pe_int))) (pss_cons (ps_set (i := 3) sc_law_pot.nd rfl (Or.inl rfl) (pe_op op_mul (pe_op op_mod (pe_callTy call_int1 (by rfl) gint (by decide +kernel) (pa_cons (pe_callB call_abs (by rfl) gabs (by decide +kernel) (pa_cons (pv 2) pa_nil)) pa_nil)) (pe_op op_powW (pe_op op_pow pe_int pe_int) pe_int)) (pe_callTy call_int1 (by rfl) gint (by decide +kernel) (pa_cons (pe_cmpR op_ge (pe_callB call_abs (by rfl) gabs (by decide +kernel) (pa_cons (pv 2) pa_nil)) (pe_op op_pow pe_int pe_int) (nomark _)) pa_nil)))) (pss_cons (ps_set (i := 4) sc_law_pot.nd rfl (Or.inl rfl) (pe_op op_mod (pe_callTy call_int1 (by rfl) gint (by decide +kernel) (pa_cons (pv 2) pa_nil)) pe_int)) (pss_one (ps_ret (pe_lst (pa_cons (pv 3) (pa_cons (pe_op op_mod (pe_callTy call_int1 (by rfl) gint (by decide +kernel) (pa_cons (pe_op op_add (pe_op op_add (pe_op op_mul (pv 4) pe_int) (pe_op op_mul (pe_op op_mul pe_int (pv 1)) (pv 1))) pe_int) pa_nil)) pe_int) (pa_cons pe_int pa_nil))))))))), ?_⟩
    refine ⟨_, rfl, _, rfl, p, _, rfl, .inl hs, _, _, rfl, rfl, _, rfl, ?_⟩
    refine ite2 (fun ht => ?_) (fun ht => ?_)
    · have hi : i < (ns.map V.int).length := by have := of_decide_eq_true ht; omega
      refine ⟨_, rfl, _, rfl, p, _, _, (ns.map V.int)[i], rfl, rfl, hs, atI_nat (List.getElem?_eq_getElem hi), ?_⟩
      rw [List.getElem_map]
      generalize ns[i]'(by simpa using hi) = c
      refine ⟨_, rfl, _, rfl, .inl ⟨_, rfl, _, _, rfl, rfl, ⟨by decide, by decide, by decide⟩, _, _, rfl, rfl, ⟨by decide, by decide +kernel⟩, _, _, rfl, rfl, (by show (0 : Int) < (10 ^ Int.toNat 60) ^ Int.toNat 5; decide +kernel), ?_⟩⟩
      refine ⟨_, rfl, _, rfl, _, _, rfl, rfl, ⟨by decide, by decide, by decide⟩, _, _, rfl, rfl, .inr ⟨_, rfl, _, _, rfl, rfl, (dig_ok _ _).1, ?_⟩⟩
      refine ⟨_, rfl, .inl ⟨_, rfl, _, _, rfl, rfl, (by show (0 : Int) < 2305843009213693951; decide), ?_⟩⟩
      have s0 : 0 ≤ c % 2305843009213693951 := Int.emod_nonneg _ (by decide)
      have s1 : c % 2305843009213693951 < 2305843009213693951 := Int.emod_lt_of_pos _ (by decide)
      refine ⟨_, rfl, _, rfl, _, _, rfl, rfl, .inl ⟨by omega, by omega⟩, _, rfl, _, _, rfl, rfl, .inl ⟨by decide, by decide⟩, _, rfl, _, _, rfl, rfl, .inr ⟨by omega, by omega⟩, _, _, rfl, rfl, _, _, rfl, rfl, .inl ⟨_, rfl, _, _, rfl, rfl, (by show (0 : Int) < 2305843009213693921; decide), ?_⟩⟩
      refine ⟨by show 3 ≤ sizeLine; decide, fun r hr => q _ _ hr (Same.new hr) ⟨_, _, _, upd_same, (dig_ok _ _).2.1, (dig_ok _ _).2.2, Int.emod_nonneg _ (by decide), Int.lt_trans (Int.emod_lt_of_pos _ (by decide)) (by decide), Int.le_refl 0, Int.le_refl 0⟩⟩
    · refine ⟨_, rfl, _, _, rfl, rfl, .inl ⟨by decide, by decide⟩, _, _, rfl, rfl, ?_⟩
      obtain ⟨c, hc⟩ : ∃ c : Int, c = 311 * (i : Int) + 149 := ⟨_, rfl⟩
      rw [show (fun i j => V.int (i + j)) (311 * (i : Int)) 149 = V.int c from by rw [hc]]
      refine ⟨_, rfl, _, rfl, .inl ⟨_, rfl, _, _, rfl, rfl, ⟨by decide, by decide, by decide⟩, _, _, rfl, rfl, ⟨by decide, by decide +kernel⟩, _, _, rfl, rfl, (by show (0 : Int) < (10 ^ Int.toNat 60) ^ Int.toNat 5; decide +kernel), ?_⟩⟩
      refine ⟨_, rfl, _, rfl, _, _, rfl, rfl, ⟨by decide, by decide, by decide⟩, _, _, rfl, rfl, .inr ⟨_, rfl, _, _, rfl, rfl, (dig_ok _ _).1, ?_⟩⟩
      refine ⟨_, rfl, .inl ⟨_, rfl, _, _, rfl, rfl, (by show (0 : Int) < 2305843009213693951; decide), ?_⟩⟩
      have s0 : 0 ≤ c % 2305843009213693951 := Int.emod_nonneg _ (by decide)
      have s1 : c % 2305843009213693951 < 2305843009213693951 := Int.emod_lt_of_pos _ (by decide)
      refine ⟨_, rfl, _, rfl, _, _, rfl, rfl, .inl ⟨by omega, by omega⟩, _, rfl, _, _, rfl, rfl, .inl ⟨by decide, by decide⟩, _, rfl, _, _, rfl, rfl, .inr ⟨by omega, by omega⟩, _, _, rfl, rfl, _, _, rfl, rfl, .inl ⟨_, rfl, _, _, rfl, rfl, (by show (0 : Int) < 2305843009213693921; decide), ?_⟩⟩
      refine ⟨by show 3 ≤ sizeLine; decide, fun r hr => q _ _ hr (Same.new hr) ⟨_, _, _, upd_same, (dig_ok _ _).2.1, (dig_ok _ _).2.2, Int.emod_nonneg _ (by decide), Int.lt_trans (Int.emod_lt_of_pos _ (by decide)) (by decide), Int.le_refl 0, Int.le_refl 0⟩⟩
end
end K00
set_option Elab.async false
set_option linter.all false
set_option maxRecDepth 100000
set_option maxHeartbeats 8000000
namespace K00
open PySem PySem.Spec PyProof.Rows L2 BL
section
variable {P : Program} {w : World} {K : PySem.W.Frag} {mg : Str → Option Value} {base : Heap} {f : Addr} {fd : FuncData}
abbrev N_law_odd : List Str := ["_law_pot_here", "_law_some"]
theorem sc_law_odd : FnScope ["_law_pot_here", "_law_some"] ["_law_pot_here"] (defScope s_law_odd) := ⟨rfl, rfl, rfl, by decide +kernel, rfl, by decide +kernel, by decide +kernel⟩
theorem ok_law_odd (F : FnP K "_law_odd" s_law_odd f fd) (hm : mg "_law_odd" = some (.ref f)) (D_law_of : DefOk P w K mg base "_law_of" 2 ["_law_pot_here", "_law_some"] (spOf K)) :
    DefOk P w K mg base "_law_odd" 3 ["_law_pot_here"] (spOdd K) := by
  refine def_mk F hm (F.bindsN fun _ _ _ _ _ _ us hl => match us, hl with | [_], _ => rfl) (fnG_of F sc_law_odd (fun v H Q E h => ?_) (fun cd A o s H vs Q E hr hg h => ?_))
  · obtain ⟨p, n, rfl, _⟩ := h; rfl
  · obtain ⟨p, n, rfl, ⟨a, b, c, hp0, pr⟩, hn, q⟩ := h
    have hr_law_of := hr
    refine ⟨_, (pss_cons (ps_set (i := 1) sc_law_odd.nd rfl (Or.inl rfl) (pe_lst (pa_cons pe_non (pa_cons pe_bl (pa_cons pe_bl (pa_cons pe_int (pa_cons pe_int (pa_cons (pe_un un_neg pe_int) (pa_cons pe_int (pa_cons pe_int (pa_cons pe_str (pa_cons pe_str (pa_cons pe_str (pa_cons pe_str (pa_cons pe_str (pa_cons (pe_tup pa_nil) (pa_cons (pe_lst pa_nil) (pa_cons pe_dnewK (pa_cons (pe_tup (pa_cons (pe_tup pa_nil) pa_nil)) (pa_cons (pe_tup (pa_cons pe_int pa_nil)) (pa_cons (pe_tup (pa_cons pe_str pa_nil)) (pa_cons (pe_lst (pa_cons pe_int pa_nil)) pa_nil)))))))))))))))))))))) (pss_one (ps_ret (pe_d D_law_of hr_law_of hg rfl (pa_cons (pv 0) (pa_cons (pe_op op_cat (pv 1) (pe_lst (pa_cons (pe_tup (pa_cons pe_str (pa_cons pe_str pa_nil))) (pa_cons (pe_tup (pa_cons pe_int (pa_cons pe_int pa_nil))) (pa_cons (pe_tup (pa_cons pe_int (pa_cons pe_int pa_nil))) (pa_cons (pe_tup (pa_cons pe_non pa_nil)) (pa_cons (pe_disp (pps_cons pe_str pe_int pps_nil) (by rfl) (by rfl) (fun z => by cases z) (by decide)) (pa_cons (pe_tup (pa_cons pe_int (pa_cons pe_int pa_nil))) (pa_cons (pe_tup (pa_cons pe_bl pa_nil)) (pa_cons pe_str (pa_cons (pe_tup (pa_cons (pe_un un_neg pe_int) pa_nil)) (pa_cons (pe_tup (pa_cons pe_int pa_nil)) pa_nil)))))))))))) pa_nil)))))), ?_⟩
    have A0 : Acc K (cut H p) [] := Acc.nil
    have S0 : Same H H := Same.refl H
    refine ⟨_, rfl, ?_⟩
    refine ⟨by show 0 ≤ sizeLine; decide, fun a1 na1 => ?_⟩
    obtain ⟨H1, s1, hp1, e1, z1⟩ := newL (.tup []) hp0 na1
    rw [z1]
    have d1 := dp_t (K := K) e1 DpAll.nil
    have A1 := A0.put (cut_same s1) (good_of d1)
    have S1 := S0.trans s1
    refine ⟨by show 0 ≤ sizeLine; decide, fun a2 na2 => ?_⟩
    obtain ⟨H2, s2, hp2, e2, z2⟩ := newL (.lst []) hp1 na2
    rw [z2]
    have d2 := dp_l (K := K) e2 DpAll.nil
    have A2 := A1.put (cut_same s2) (good_of d2)
    have S2 := S1.trans s2
    refine fun a3 na3 => ?_
    obtain ⟨H3, s3, hp3, e3, z3⟩ := newL (.dK []) hp2 na3
    rw [z3]
    have A3 := A2.put (cut_same s3) (good_q (.d0 e3))
    have S3 := S2.trans s3
    refine ⟨by show 0 ≤ sizeLine; decide, fun a4 na4 => ?_⟩
    obtain ⟨H4, s4, hp4, e4, z4⟩ := newL (.tup []) hp3 na4
    rw [z4]
    have d4 := dp_t (K := K) e4 DpAll.nil
    have A4 := A3.put (cut_same s4) (good_of d4)
    have S4 := S3.trans s4
    refine ⟨by show 1 ≤ sizeLine; decide, fun a5 na5 => ?_⟩
    obtain ⟨H5, s5, hp5, e5, z5⟩ := newL (.tup [(.ref a4)]) hp4 na5
    rw [z5]
    have d5 := dp_t (K := K) e5 (.cons (Dp.same (cut_same s5) _ _ d4) DpAll.nil)
    have A5 := A4.put (cut_same s5) (good_of d5)
    have S5 := S4.trans s5
    refine ⟨by show 1 ≤ sizeLine; decide, fun a6 na6 => ?_⟩
    obtain ⟨H6, s6, hp6, e6, z6⟩ := newL (.tup [(.int 0)]) hp5 na6
    rw [z6]
    have d6 := dp_t (K := K) e6 (.cons (.int _) DpAll.nil)
    have A6 := A5.put (cut_same s6) (good_of d6)
    have S6 := S5.trans s6
    refine ⟨by show 1 ≤ sizeLine; decide, fun a7 na7 => ?_⟩
    obtain ⟨H7, s7, hp7, e7, z7⟩ := newL (.tup [(.str "a")]) hp6 na7
    rw [z7]
    have d7 := dp_t (K := K) e7 (.cons (.str _) DpAll.nil)
    have A7 := A6.put (cut_same s7) (good_of d7)
    have S7 := S6.trans s7
    refine ⟨by show 1 ≤ sizeLine; decide, fun a8 na8 => ?_⟩
    obtain ⟨H8, s8, hp8, e8, z8⟩ := newL (.lst [(.int 0)]) hp7 na8
    rw [z8]
    have d8 := dp_l (K := K) e8 (.cons (.int _) DpAll.nil)
    have A8 := A7.put (cut_same s8) (good_of d8)
    have S8 := S7.trans s8
    refine ⟨by show 20 ≤ sizeLine; decide, fun a9 na9 => ?_⟩
    obtain ⟨H9, s9, hp9, e9, z9⟩ := newL (.lst [.non, (.bl true), (.bl false), (.int 0), (.int 1), (.int (-1)), (.int 7), (.int 401), (.str ""), (.str "a"), (.str "01"), (.str "ring"), (.str "all"), (.ref a1), (.ref a2), (.ref a3), (.ref a5), (.ref a6), (.ref a7), (.ref a8)]) hp8 na9
    rw [z9]
    have A9 : Acc K (cut H9 p) _ := fun v m => (A8 v m).same (cut_same s9)
    have S9 := S8.trans s9
    have l1 := cut_le _ _ e9
    refine ⟨_, rfl, _, rfl, ?_⟩
    refine ⟨by show 2 ≤ sizeLine; decide, fun a10 na10 => ?_⟩
    obtain ⟨H10, s10, hp10, e10, z10⟩ := newL (.tup [(.str "a"), (.str "b")]) hp9 na10
    rw [z10]
    have d10 := dp_t (K := K) e10 (.cons (.str _) (.cons (.str _) DpAll.nil))
    have A10 := A9.put (cut_same s10) (good_of d10)
    have S10 := S9.trans s10
    refine ⟨by show 2 ≤ sizeLine; decide, fun a11 na11 => ?_⟩
    obtain ⟨H11, s11, hp11, e11, z11⟩ := newL (.tup [(.int 0), (.int 1)]) hp10 na11
    rw [z11]
    have d11 := dp_t (K := K) e11 (.cons (.int _) (.cons (.int _) DpAll.nil))
    have A11 := A10.put (cut_same s11) (good_of d11)
    have S11 := S10.trans s11
    refine ⟨by show 2 ≤ sizeLine; decide, fun a12 na12 => ?_⟩
    obtain ⟨H12, s12, hp12, e12, z12⟩ := newL (.tup [(.int 1), (.int 0)]) hp11 na12
    rw [z12]
    have d12 := dp_t (K := K) e12 (.cons (.int _) (.cons (.int _) DpAll.nil))
    have A12 := A11.put (cut_same s12) (good_of d12)
    have S12 := S11.trans s12
    refine ⟨by show 1 ≤ sizeLine; decide, fun a13 na13 => ?_⟩
    obtain ⟨H13, s13, hp13, e13, z13⟩ := newL (.tup [.non]) hp12 na13
    rw [z13]
    have d13 := dp_t (K := K) e13 (.cons .non DpAll.nil)
    have A13 := A12.put (cut_same s13) (good_of d13)
    have S13 := S12.trans s13
    refine fun a14 na14 => ⟨upd_same, [(.inr "a", .int 1)], rfl, by decide, ?_⟩
    rw [upd_upd]
    obtain ⟨H14, s14, hp14, e14, z14⟩ := newL (.dK (mergeK [] [(.inr "a", .int 1)])) hp13 na14
    rw [z14]
    have A14 := A13.put (cut_same s14) (good_q (.d1 e14))
    have S14 := S13.trans s14
    refine ⟨by show 2 ≤ sizeLine; decide, fun a15 na15 => ?_⟩
    obtain ⟨H15, s15, hp15, e15, z15⟩ := newL (.tup [(.int 0), (.int 0)]) hp14 na15
    rw [z15]
    have d15 := dp_t (K := K) e15 (.cons (.int _) (.cons (.int _) DpAll.nil))
    have A15 := A14.put (cut_same s15) (good_of d15)
    have S15 := S14.trans s15
    refine ⟨by show 1 ≤ sizeLine; decide, fun a16 na16 => ?_⟩
    obtain ⟨H16, s16, hp16, e16, z16⟩ := newL (.tup [(.bl true)]) hp15 na16
    rw [z16]
    have d16 := dp_t (K := K) e16 (.cons (.bl _) DpAll.nil)
    have A16 := A15.put (cut_same s16) (good_of d16)
    have S16 := S15.trans s16
    refine ⟨_, rfl, ?_⟩
    refine ⟨by show 1 ≤ sizeLine; decide, fun a17 na17 => ?_⟩
    obtain ⟨H17, s17, hp17, e17, z17⟩ := newL (.tup [(.int (-7))]) hp16 na17
    rw [z17]
    have d17 := dp_t (K := K) e17 (.cons (.int _) DpAll.nil)
    have A17 := A16.put (cut_same s17) (good_of d17)
    have S17 := S16.trans s17
    refine ⟨by show 1 ≤ sizeLine; decide, fun a18 na18 => ?_⟩
    obtain ⟨H18, s18, hp18, e18, z18⟩ := newL (.tup [(.int 401)]) hp17 na18
    rw [z18]
    have d18 := dp_t (K := K) e18 (.cons (.int _) DpAll.nil)
    have A18 := A17.put (cut_same s18) (good_of d18)
    have S18 := S17.trans s18
    refine ⟨by show 10 ≤ sizeLine; decide, fun a19 na19 => ?_⟩
    obtain ⟨H19, s19, hp19, e19, z19⟩ := newL (.lst [(.ref a10), (.ref a11), (.ref a12), (.ref a13), (.ref a14), (.ref a15), (.ref a16), (.str "2"), (.ref a17), (.ref a18)]) hp18 na19
    rw [z19]
    have l2 := (s19 _ _ (s18 _ _ (s17 _ _ (s16 _ _ (s15 _ _ (s14 _ _ (s13 _ _ (s12 _ _ (s11 _ _ (s10 _ _ l1))))))))))
    have A19 : Acc K (cut H19 p) _ := fun v m => (A18 v m).same (cut_same s19)
    have S19 := S18.trans s19
    refine ⟨a9, a19, _, _, rfl, rfl, l2, cut_le _ _ e19, by show 30 ≤ sizeLine; decide, fun a20 na20 => ?_⟩
    obtain ⟨H20, s20, hp20, e20, z20⟩ := newL (.lst ([.non, (.bl true), (.bl false), (.int 0), (.int 1), (.int (-1)), (.int 7), (.int 401), (.str ""), (.str "a"), (.str "01"), (.str "ring"), (.str "all"), (.ref a1), (.ref a2), (.ref a3), (.ref a5), (.ref a6), (.ref a7), (.ref a8)] ++ [(.ref a10), (.ref a11), (.ref a12), (.ref a13), (.ref a14), (.ref a15), (.ref a16), (.str "2"), (.ref a17), (.ref a18)])) hp19 na20
    rw [z20]
    have S20 := S19.trans s20
    have ne : p ≠ a20 := fun z => by rw [← z] at e20; unfold cut at e20; rw [if_pos rfl] at e20; cases e20
    refine ⟨p, a20, n, _, rfl, ne, SqL.of (cut_le _ _ e20), by simp, by show 30 < 1073741824; decide, ⟨a, b, c, hp20, pr⟩, hn, fun G bt => SqL.of (cut_but bt _ _ e20), fun G v bt pt m => q G v (fun b o nb h => bt b o nb (S20 b o h)) pt ?_⟩
    have A20 : Acc K (cut H20 p) _ := fun v m => (A19 v m).same (cut_same s20)
    refine Good.same ?_ (cut_but bt)
    simp only [List.mem_cons, List.cons_append, List.nil_append, List.not_mem_nil, or_false] at m
    rcases m with m | m | m | m | m | m | m | m | m | m | m | m | m | m | m | m | m | m | m | m | m | m | m | m | m | m | m | m | m | m <;> subst m
    · exact good_non
    · exact good_bl _
    · exact good_bl _
    · exact good_int _
    · exact good_int _
    · exact good_int _
    · exact good_int _
    · exact good_int _
    · exact good_str _
    · exact good_str _
    · exact good_str _
    · exact good_str _
    · exact good_str _
    · exact A20 _ (by simp)
    · exact A20 _ (by simp)
    · exact A20 _ (by simp)
    · exact A20 _ (by simp)
    · exact A20 _ (by simp)
    · exact A20 _ (by simp)
    · exact A20 _ (by simp)
    · exact A20 _ (by simp)
    · exact A20 _ (by simp)
    · exact A20 _ (by simp)
    · exact A20 _ (by simp)
    · exact A20 _ (by simp)
    · exact A20 _ (by simp)
    · exact A20 _ (by simp)
    · exact good_str _
    · exact A20 _ (by simp)
    · exact A20 _ (by simp)
end
end K00
set_option Elab.async false
set_option linter.all false
set_option maxRecDepth 100000
set_option maxHeartbeats 8000000
namespace K00
open PySem PySem.Spec PyProof.Rows L2 BL
open He (ga)
section
variable {P : Program} {w : World} {K : PySem.W.Frag} {mg : Str → Option Value} {base : Heap} {f fI : Addr} {fd : FuncData}
def allC : List Str := "LampError" :: cls
def ws1 : List Str := ["BadPolynomial", "Nought", "BadBeats", "TooLong", "NoMeasure", "BadSize", "BadRule", "NotEven", "BadKind", "BadRow", "OtherSize", "Garden", "TooMany", "Loses", "BadNumber", "BadSides", "BadMiddle", "BadFloor", "Barred", "NotPlain", "TooHigh"]
def ws2 : List Str := ["NotQuiet", "NoSpread", "BadPicture", "BadPlace", "TooWide", "Endless", "BadLooks", "BadLook", "Held", "Full", "NoLook", "Quarrel", "BadOffers", "BadPlaces", "BadPresses", "NothingToUndo", "NothingToRedo", "NoTrial", "BadJournal", "BadLine"]
theorem nb : ("LampError" : Str) ∉ cls := by decide +kernel
/-- the words of an error of the class x -/
def spWords (K : PySem.W.Frag) (ws : List Str) : Sp := fun vs H Q _ => ∃ (e : Addr) (x : Str) (v : V), vs = [.ref e] ∧ x ∈ allC ∧ Bears H e (ga K x) v ∧
  ∀ H' p, H p = none → Same H H' → H' p = some (.lst ((ws.filter fun y => decide (y = x)).map V.str)) → Q (.ref p) H'
abbrev N_law_more_words : List Str := ["_law_error", "_law_found"]
theorem sc_law_more_words : FnScope ["_law_error", "_law_found"] ["_law_error"] (defScope s_law_more_words) := ⟨rfl, rfl, rfl, by decide +kernel, rfl, by decide +kernel, by decide +kernel⟩
theorem ok_law_more_words (T : Excs K "LampError" cls fI) (gC : ∀ x ∈ allC, mg x = some (.ref (ga K x))) (gisinstance : mg "isinstance" = none) (F : FnP K "_law_more_words" s_law_more_words f fd) (hm : mg "_law_more_words" = some (.ref f)) :
    DefOk P w K mg base "_law_more_words" 1 ["_law_error"] (spWords K ws2) := by
  refine def_mk F hm (F.bindsN fun _ _ _ _ _ _ us hl => match us, hl with | [_], _ => rfl) (fnG_of F sc_law_more_words (fun v H Q E h => ?_) (fun cd A o s H vs Q E hr hg h => ?_))
  · obtain ⟨p, n, v, rfl, _⟩ := h; rfl
  · obtain ⟨e, x, v, rfl, hx, B, q⟩ := h
    refine ⟨_, (pss_cons (ps_set (i := 1) sc_law_more_words.nd rfl (Or.inl rfl) (pe_lst pa_nil)) (pss_cons (ps_expr (pe_bm PySem.F.plainAttrs_list PySem.F.slot_list_extend PySem.F.type_list_extend mt_extend (pv 1) (pa_cons (pe_ifExp (pt_val (pe_callB call_isV (by rfl) gisinstance (by decide +kernel) (pa_cons (pv 0) (pa_cons (pe_glob (v := .ref (ga K "NotQuiet")) rfl (gC "NotQuiet" (by decide +kernel)) rfl) pa_nil)))) (pe_lst (pa_cons pe_str pa_nil)) (pe_lst pa_nil)) pa_nil))) (pss_cons (ps_expr (pe_bm PySem.F.plainAttrs_list PySem.F.slot_list_extend PySem.F.type_list_extend mt_extend (pv 1) (pa_cons (pe_ifExp (pt_val (pe_callB call_isV (by rfl) gisinstance (by decide +kernel) (pa_cons (pv 0) (pa_cons (pe_glob (v := .ref (ga K "NoSpread")) rfl (gC "NoSpread" (by decide +kernel)) rfl) pa_nil)))) (pe_lst (pa_cons pe_str pa_nil)) (pe_lst pa_nil)) pa_nil))) (pss_cons (ps_expr (pe_bm PySem.F.plainAttrs_list PySem.F.slot_list_extend PySem.F.type_list_extend mt_extend (pv 1) (pa_cons (pe_ifExp (pt_val (pe_callB call_isV (by rfl) gisinstance (by decide +kernel) (pa_cons (pv 0) (pa_cons (pe_glob (v := .ref (ga K "BadPicture")) rfl (gC "BadPicture" (by decide +kernel)) rfl) pa_nil)))) (pe_lst (pa_cons pe_str pa_nil)) (pe_lst pa_nil)) pa_nil))) (pss_cons (ps_expr (pe_bm PySem.F.plainAttrs_list PySem.F.slot_list_extend PySem.F.type_list_extend mt_extend (pv 1) (pa_cons (pe_ifExp (pt_val (pe_callB call_isV (by rfl) gisinstance (by decide +kernel) (pa_cons (pv 0) (pa_cons (pe_glob (v := .ref (ga K "BadPlace")) rfl (gC "BadPlace" (by decide +kernel)) rfl) pa_nil)))) (pe_lst (pa_cons pe_str pa_nil)) (pe_lst pa_nil)) pa_nil))) (pss_cons (ps_expr (pe_bm PySem.F.plainAttrs_list PySem.F.slot_list_extend PySem.F.type_list_extend mt_extend (pv 1) (pa_cons (pe_ifExp (pt_val (pe_callB call_isV (by rfl) gisinstance (by decide +kernel) (pa_cons (pv 0) (pa_cons (pe_glob (v := .ref (ga K "TooWide")) rfl (gC "TooWide" (by decide +kernel)) rfl) pa_nil)))) (pe_lst (pa_cons pe_str pa_nil)) (pe_lst pa_nil)) pa_nil))) (pss_cons (ps_expr (pe_bm PySem.F.plainAttrs_list PySem.F.slot_list_extend PySem.F.type_list_extend mt_extend (pv 1) (pa_cons (pe_ifExp (pt_val (pe_callB call_isV (by rfl) gisinstance (by decide +kernel) (pa_cons (pv 0) (pa_cons (pe_glob (v := .ref (ga K "Endless")) rfl (gC "Endless" (by decide +kernel)) rfl) pa_nil)))) (pe_lst (pa_cons pe_str pa_nil)) (pe_lst pa_nil)) pa_nil))) (pss_cons (ps_expr (pe_bm PySem.F.plainAttrs_list PySem.F.slot_list_extend PySem.F.type_list_extend mt_extend (pv 1) (pa_cons (pe_ifExp (pt_val (pe_callB call_isV (by rfl) gisinstance (by decide +kernel) (pa_cons (pv 0) (pa_cons (pe_glob (v := .ref (ga K "BadLooks")) rfl (gC "BadLooks" (by decide +kernel)) rfl) pa_nil)))) (pe_lst (pa_cons pe_str pa_nil)) (pe_lst pa_nil)) pa_nil))) (pss_cons (ps_expr (pe_bm PySem.F.plainAttrs_list PySem.F.slot_list_extend PySem.F.type_list_extend mt_extend (pv 1) (pa_cons (pe_ifExp (pt_val (pe_callB call_isV (by rfl) gisinstance (by decide +kernel) (pa_cons (pv 0) (pa_cons (pe_glob (v := .ref (ga K "BadLook")) rfl (gC "BadLook" (by decide +kernel)) rfl) pa_nil)))) (pe_lst (pa_cons pe_str pa_nil)) (pe_lst pa_nil)) pa_nil))) (pss_cons (ps_expr (pe_bm PySem.F.plainAttrs_list PySem.F.slot_list_extend PySem.F.type_list_extend mt_extend (pv 1) (pa_cons (pe_ifExp (pt_val (pe_callB call_isV (by rfl) gisinstance (by decide +kernel) (pa_cons (pv 0) (pa_cons (pe_glob (v := .ref (ga K "Held")) rfl (gC "Held" (by decide +kernel)) rfl) pa_nil)))) (pe_lst (pa_cons pe_str pa_nil)) (pe_lst pa_nil)) pa_nil))) (pss_cons (ps_expr (pe_bm PySem.F.plainAttrs_list PySem.F.slot_list_extend PySem.F.type_list_extend mt_extend (pv 1) (pa_cons (pe_ifExp (pt_val (pe_callB call_isV (by rfl) gisinstance (by decide +kernel) (pa_cons (pv 0) (pa_cons (pe_glob (v := .ref (ga K "Full")) rfl (gC "Full" (by decide +kernel)) rfl) pa_nil)))) (pe_lst (pa_cons pe_str pa_nil)) (pe_lst pa_nil)) pa_nil))) (pss_cons (ps_expr (pe_bm PySem.F.plainAttrs_list PySem.F.slot_list_extend PySem.F.type_list_extend mt_extend (pv 1) (pa_cons (pe_ifExp (pt_val (pe_callB call_isV (by rfl) gisinstance (by decide +kernel) (pa_cons (pv 0) (pa_cons (pe_glob (v := .ref (ga K "NoLook")) rfl (gC "NoLook" (by decide +kernel)) rfl) pa_nil)))) (pe_lst (pa_cons pe_str pa_nil)) (pe_lst pa_nil)) pa_nil))) (pss_cons (ps_expr (pe_bm PySem.F.plainAttrs_list PySem.F.slot_list_extend PySem.F.type_list_extend mt_extend (pv 1) (pa_cons (pe_ifExp (pt_val (pe_callB call_isV (by rfl) gisinstance (by decide +kernel) (pa_cons (pv 0) (pa_cons (pe_glob (v := .ref (ga K "Quarrel")) rfl (gC "Quarrel" (by decide +kernel)) rfl) pa_nil)))) (pe_lst (pa_cons pe_str pa_nil)) (pe_lst pa_nil)) pa_nil))) (pss_cons (ps_expr (pe_bm PySem.F.plainAttrs_list PySem.F.slot_list_extend PySem.F.type_list_extend mt_extend (pv 1) (pa_cons (pe_ifExp (pt_val (pe_callB call_isV (by rfl) gisinstance (by decide +kernel) (pa_cons (pv 0) (pa_cons (pe_glob (v := .ref (ga K "BadOffers")) rfl (gC "BadOffers" (by decide +kernel)) rfl) pa_nil)))) (pe_lst (pa_cons pe_str pa_nil)) (pe_lst pa_nil)) pa_nil))) (pss_cons (ps_expr (pe_bm PySem.F.plainAttrs_list PySem.F.slot_list_extend PySem.F.type_list_extend mt_extend (pv 1) (pa_cons (pe_ifExp (pt_val (pe_callB call_isV (by rfl) gisinstance (by decide +kernel) (pa_cons (pv 0) (pa_cons (pe_glob (v := .ref (ga K "BadPlaces")) rfl (gC "BadPlaces" (by decide +kernel)) rfl) pa_nil)))) (pe_lst (pa_cons pe_str pa_nil)) (pe_lst pa_nil)) pa_nil))) (pss_cons (ps_expr (pe_bm PySem.F.plainAttrs_list PySem.F.slot_list_extend PySem.F.type_list_extend mt_extend (pv 1) (pa_cons (pe_ifExp (pt_val (pe_callB call_isV (by rfl) gisinstance (by decide +kernel) (pa_cons (pv 0) (pa_cons (pe_glob (v := .ref (ga K "BadPresses")) rfl (gC "BadPresses" (by decide +kernel)) rfl) pa_nil)))) (pe_lst (pa_cons pe_str pa_nil)) (pe_lst pa_nil)) pa_nil))) (pss_cons (ps_expr (pe_bm PySem.F.plainAttrs_list PySem.F.slot_list_extend PySem.F.type_list_extend mt_extend (pv 1) (pa_cons (pe_ifExp (pt_val (pe_callB call_isV (by rfl) gisinstance (by decide +kernel) (pa_cons (pv 0) (pa_cons (pe_glob (v := .ref (ga K "NothingToUndo")) rfl (gC "NothingToUndo" (by decide +kernel)) rfl) pa_nil)))) (pe_lst (pa_cons pe_str pa_nil)) (pe_lst pa_nil)) pa_nil))) (pss_cons (ps_expr (pe_bm PySem.F.plainAttrs_list PySem.F.slot_list_extend PySem.F.type_list_extend mt_extend (pv 1) (pa_cons (pe_ifExp (pt_val (pe_callB call_isV (by rfl) gisinstance (by decide +kernel) (pa_cons (pv 0) (pa_cons (pe_glob (v := .ref (ga K "NothingToRedo")) rfl (gC "NothingToRedo" (by decide +kernel)) rfl) pa_nil)))) (pe_lst (pa_cons pe_str pa_nil)) (pe_lst pa_nil)) pa_nil))) (pss_cons (ps_expr (pe_bm PySem.F.plainAttrs_list PySem.F.slot_list_extend PySem.F.type_list_extend mt_extend (pv 1) (pa_cons (pe_ifExp (pt_val (pe_callB call_isV (by rfl) gisinstance (by decide +kernel) (pa_cons (pv 0) (pa_cons (pe_glob (v := .ref (ga K "NoTrial")) rfl (gC "NoTrial" (by decide +kernel)) rfl) pa_nil)))) (pe_lst (pa_cons pe_str pa_nil)) (pe_lst pa_nil)) pa_nil))) (pss_cons (ps_expr (pe_bm PySem.F.plainAttrs_list PySem.F.slot_list_extend PySem.F.type_list_extend mt_extend (pv 1) (pa_cons (pe_ifExp (pt_val (pe_callB call_isV (by rfl) gisinstance (by decide +kernel) (pa_cons (pv 0) (pa_cons (pe_glob (v := .ref (ga K "BadJournal")) rfl (gC "BadJournal" (by decide +kernel)) rfl) pa_nil)))) (pe_lst (pa_cons pe_str pa_nil)) (pe_lst pa_nil)) pa_nil))) (pss_cons (ps_expr (pe_bm PySem.F.plainAttrs_list PySem.F.slot_list_extend PySem.F.type_list_extend mt_extend (pv 1) (pa_cons (pe_ifExp (pt_val (pe_callB call_isV (by rfl) gisinstance (by decide +kernel) (pa_cons (pv 0) (pa_cons (pe_glob (v := .ref (ga K "BadLine")) rfl (gC "BadLine" (by decide +kernel)) rfl) pa_nil)))) (pe_lst (pa_cons pe_str pa_nil)) (pe_lst pa_nil)) pa_nil))) (pss_one (ps_ret (pv 1)))))))))))))))))))))))), ?_⟩
    refine ⟨by show 0 ≤ sizeLine; decide, fun p hp => ?_⟩
    have b0 := B.same (Same.new (o := .lst []) hp)
    have hp0 : upd H p (.lst []) p = some (.lst ((([] : List Str).filter fun y => decide (y = x)).map V.str)) := upd_same
    have S0 : Same H (upd H p (.lst [])) := Same.new hp
    refine w_step (y := "NotQuiet") T nb hx (by decide +kernel) b0 hp0 (by decide) S0 hp (fun H1 b1 hp1 S1 => ?_)
    refine w_step (y := "NoSpread") T nb hx (by decide +kernel) b1 hp1 (by decide) S1 hp (fun H2 b2 hp2 S2 => ?_)
    refine w_step (y := "BadPicture") T nb hx (by decide +kernel) b2 hp2 (by decide) S2 hp (fun H3 b3 hp3 S3 => ?_)
    refine w_step (y := "BadPlace") T nb hx (by decide +kernel) b3 hp3 (by decide) S3 hp (fun H4 b4 hp4 S4 => ?_)
    refine w_step (y := "TooWide") T nb hx (by decide +kernel) b4 hp4 (by decide) S4 hp (fun H5 b5 hp5 S5 => ?_)
    refine w_step (y := "Endless") T nb hx (by decide +kernel) b5 hp5 (by decide) S5 hp (fun H6 b6 hp6 S6 => ?_)
    refine w_step (y := "BadLooks") T nb hx (by decide +kernel) b6 hp6 (by decide) S6 hp (fun H7 b7 hp7 S7 => ?_)
    refine w_step (y := "BadLook") T nb hx (by decide +kernel) b7 hp7 (by decide) S7 hp (fun H8 b8 hp8 S8 => ?_)
    refine w_step (y := "Held") T nb hx (by decide +kernel) b8 hp8 (by decide) S8 hp (fun H9 b9 hp9 S9 => ?_)
    refine w_step (y := "Full") T nb hx (by decide +kernel) b9 hp9 (by decide) S9 hp (fun H10 b10 hp10 S10 => ?_)
    refine w_step (y := "NoLook") T nb hx (by decide +kernel) b10 hp10 (by decide) S10 hp (fun H11 b11 hp11 S11 => ?_)
    refine w_step (y := "Quarrel") T nb hx (by decide +kernel) b11 hp11 (by decide) S11 hp (fun H12 b12 hp12 S12 => ?_)
    refine w_step (y := "BadOffers") T nb hx (by decide +kernel) b12 hp12 (by decide) S12 hp (fun H13 b13 hp13 S13 => ?_)
    refine w_step (y := "BadPlaces") T nb hx (by decide +kernel) b13 hp13 (by decide) S13 hp (fun H14 b14 hp14 S14 => ?_)
    refine w_step (y := "BadPresses") T nb hx (by decide +kernel) b14 hp14 (by decide) S14 hp (fun H15 b15 hp15 S15 => ?_)
    refine w_step (y := "NothingToUndo") T nb hx (by decide +kernel) b15 hp15 (by decide) S15 hp (fun H16 b16 hp16 S16 => ?_)
    refine w_step (y := "NothingToRedo") T nb hx (by decide +kernel) b16 hp16 (by decide) S16 hp (fun H17 b17 hp17 S17 => ?_)
    refine w_step (y := "NoTrial") T nb hx (by decide +kernel) b17 hp17 (by decide) S17 hp (fun H18 b18 hp18 S18 => ?_)
    refine w_step (y := "BadJournal") T nb hx (by decide +kernel) b18 hp18 (by decide) S18 hp (fun H19 b19 hp19 S19 => ?_)
    refine w_step (y := "BadLine") T nb hx (by decide +kernel) b19 hp19 (by decide) S19 hp (fun H20 b20 hp20 S20 => ?_)
    exact ⟨_, rfl, q H20 p hp S20 hp20⟩
abbrev N_law_words : List Str := ["_law_error", "_law_found"]
theorem sc_law_words : FnScope ["_law_error", "_law_found"] ["_law_error"] (defScope s_law_words) := ⟨rfl, rfl, rfl, by decide +kernel, rfl, by decide +kernel, by decide +kernel⟩
theorem ok_law_words (T : Excs K "LampError" cls fI) (gC : ∀ x ∈ allC, mg x = some (.ref (ga K x))) (gisinstance : mg "isinstance" = none) (F : FnP K "_law_words" s_law_words f fd) (hm : mg "_law_words" = some (.ref f))
    (D_law_more_words : DefOk P w K mg base "_law_more_words" 1 ["_law_error"] (spWords K ws2)) :
    DefOk P w K mg base "_law_words" 2 ["_law_error"] (spWords K (ws1 ++ ws2)) := by
  refine def_mk F hm (F.bindsN fun _ _ _ _ _ _ us hl => match us, hl with | [_], _ => rfl) (fnG_of F sc_law_words (fun v H Q E h => ?_) (fun cd A o s H vs Q E hr hg h => ?_))
  · obtain ⟨p, n, v, rfl, _⟩ := h; rfl
  · obtain ⟨e, x, v, rfl, hx, B, q⟩ := h
    have hr_law_more_words := hr
    refine ⟨_, (pss_cons (ps_set (i := 1) sc_law_words.nd rfl (Or.inl rfl) (pe_lst pa_nil)) (pss_cons (ps_expr (pe_bm PySem.F.plainAttrs_list PySem.F.slot_list_extend PySem.F.type_list_extend mt_extend (pv 1) (pa_cons (pe_ifExp (pt_val (pe_callB call_isV (by rfl) gisinstance (by decide +kernel) (pa_cons (pv 0) (pa_cons (pe_glob (v := .ref (ga K "BadPolynomial")) rfl (gC "BadPolynomial" (by decide +kernel)) rfl) pa_nil)))) (pe_lst (pa_cons pe_str pa_nil)) (pe_lst pa_nil)) pa_nil))) (pss_cons (ps_expr (pe_bm PySem.F.plainAttrs_list PySem.F.slot_list_extend PySem.F.type_list_extend mt_extend (pv 1) (pa_cons (pe_ifExp (pt_val (pe_callB call_isV (by rfl) gisinstance (by decide +kernel) (pa_cons (pv 0) (pa_cons (pe_glob (v := .ref (ga K "Nought")) rfl (gC "Nought" (by decide +kernel)) rfl) pa_nil)))) (pe_lst (pa_cons pe_str pa_nil)) (pe_lst pa_nil)) pa_nil))) (pss_cons (ps_expr (pe_bm PySem.F.plainAttrs_list PySem.F.slot_list_extend PySem.F.type_list_extend mt_extend (pv 1) (pa_cons (pe_ifExp (pt_val (pe_callB call_isV (by rfl) gisinstance (by decide +kernel) (pa_cons (pv 0) (pa_cons (pe_glob (v := .ref (ga K "BadBeats")) rfl (gC "BadBeats" (by decide +kernel)) rfl) pa_nil)))) (pe_lst (pa_cons pe_str pa_nil)) (pe_lst pa_nil)) pa_nil))) (pss_cons (ps_expr (pe_bm PySem.F.plainAttrs_list PySem.F.slot_list_extend PySem.F.type_list_extend mt_extend (pv 1) (pa_cons (pe_ifExp (pt_val (pe_callB call_isV (by rfl) gisinstance (by decide +kernel) (pa_cons (pv 0) (pa_cons (pe_glob (v := .ref (ga K "TooLong")) rfl (gC "TooLong" (by decide +kernel)) rfl) pa_nil)))) (pe_lst (pa_cons pe_str pa_nil)) (pe_lst pa_nil)) pa_nil))) (pss_cons (ps_expr (pe_bm PySem.F.plainAttrs_list PySem.F.slot_list_extend PySem.F.type_list_extend mt_extend (pv 1) (pa_cons (pe_ifExp (pt_val (pe_callB call_isV (by rfl) gisinstance (by decide +kernel) (pa_cons (pv 0) (pa_cons (pe_glob (v := .ref (ga K "NoMeasure")) rfl (gC "NoMeasure" (by decide +kernel)) rfl) pa_nil)))) (pe_lst (pa_cons pe_str pa_nil)) (pe_lst pa_nil)) pa_nil))) (pss_cons (ps_expr (pe_bm PySem.F.plainAttrs_list PySem.F.slot_list_extend PySem.F.type_list_extend mt_extend (pv 1) (pa_cons (pe_ifExp (pt_val (pe_callB call_isV (by rfl) gisinstance (by decide +kernel) (pa_cons (pv 0) (pa_cons (pe_glob (v := .ref (ga K "BadSize")) rfl (gC "BadSize" (by decide +kernel)) rfl) pa_nil)))) (pe_lst (pa_cons pe_str pa_nil)) (pe_lst pa_nil)) pa_nil))) (pss_cons (ps_expr (pe_bm PySem.F.plainAttrs_list PySem.F.slot_list_extend PySem.F.type_list_extend mt_extend (pv 1) (pa_cons (pe_ifExp (pt_val (pe_callB call_isV (by rfl) gisinstance (by decide +kernel) (pa_cons (pv 0) (pa_cons (pe_glob (v := .ref (ga K "BadRule")) rfl (gC "BadRule" (by decide +kernel)) rfl) pa_nil)))) (pe_lst (pa_cons pe_str pa_nil)) (pe_lst pa_nil)) pa_nil))) (pss_cons (ps_expr (pe_bm PySem.F.plainAttrs_list PySem.F.slot_list_extend PySem.F.type_list_extend mt_extend (pv 1) (pa_cons (pe_ifExp (pt_val (pe_callB call_isV (by rfl) gisinstance (by decide +kernel) (pa_cons (pv 0) (pa_cons (pe_glob (v := .ref (ga K "NotEven")) rfl (gC "NotEven" (by decide +kernel)) rfl) pa_nil)))) (pe_lst (pa_cons pe_str pa_nil)) (pe_lst pa_nil)) pa_nil))) (pss_cons (ps_expr (pe_bm PySem.F.plainAttrs_list PySem.F.slot_list_extend PySem.F.type_list_extend mt_extend (pv 1) (pa_cons (pe_ifExp (pt_val (pe_callB call_isV (by rfl) gisinstance (by decide +kernel) (pa_cons (pv 0) (pa_cons (pe_glob (v := .ref (ga K "BadKind")) rfl (gC "BadKind" (by decide +kernel)) rfl) pa_nil)))) (pe_lst (pa_cons pe_str pa_nil)) (pe_lst pa_nil)) pa_nil))) (pss_cons (ps_expr (pe_bm PySem.F.plainAttrs_list PySem.F.slot_list_extend PySem.F.type_list_extend mt_extend (pv 1) (pa_cons (pe_ifExp (pt_val (pe_callB call_isV (by rfl) gisinstance (by decide +kernel) (pa_cons (pv 0) (pa_cons (pe_glob (v := .ref (ga K "BadRow")) rfl (gC "BadRow" (by decide +kernel)) rfl) pa_nil)))) (pe_lst (pa_cons pe_str pa_nil)) (pe_lst pa_nil)) pa_nil))) (pss_cons (ps_expr (pe_bm PySem.F.plainAttrs_list PySem.F.slot_list_extend PySem.F.type_list_extend mt_extend (pv 1) (pa_cons (pe_ifExp (pt_val (pe_callB call_isV (by rfl) gisinstance (by decide +kernel) (pa_cons (pv 0) (pa_cons (pe_glob (v := .ref (ga K "OtherSize")) rfl (gC "OtherSize" (by decide +kernel)) rfl) pa_nil)))) (pe_lst (pa_cons pe_str pa_nil)) (pe_lst pa_nil)) pa_nil))) (pss_cons (ps_expr (pe_bm PySem.F.plainAttrs_list PySem.F.slot_list_extend PySem.F.type_list_extend mt_extend (pv 1) (pa_cons (pe_ifExp (pt_val (pe_callB call_isV (by rfl) gisinstance (by decide +kernel) (pa_cons (pv 0) (pa_cons (pe_glob (v := .ref (ga K "Garden")) rfl (gC "Garden" (by decide +kernel)) rfl) pa_nil)))) (pe_lst (pa_cons pe_str pa_nil)) (pe_lst pa_nil)) pa_nil))) (pss_cons (ps_expr (pe_bm PySem.F.plainAttrs_list PySem.F.slot_list_extend PySem.F.type_list_extend mt_extend (pv 1) (pa_cons (pe_ifExp (pt_val (pe_callB call_isV (by rfl) gisinstance (by decide +kernel) (pa_cons (pv 0) (pa_cons (pe_glob (v := .ref (ga K "TooMany")) rfl (gC "TooMany" (by decide +kernel)) rfl) pa_nil)))) (pe_lst (pa_cons pe_str pa_nil)) (pe_lst pa_nil)) pa_nil))) (pss_cons (ps_expr (pe_bm PySem.F.plainAttrs_list PySem.F.slot_list_extend PySem.F.type_list_extend mt_extend (pv 1) (pa_cons (pe_ifExp (pt_val (pe_callB call_isV (by rfl) gisinstance (by decide +kernel) (pa_cons (pv 0) (pa_cons (pe_glob (v := .ref (ga K "Loses")) rfl (gC "Loses" (by decide +kernel)) rfl) pa_nil)))) (pe_lst (pa_cons pe_str pa_nil)) (pe_lst pa_nil)) pa_nil))) (pss_cons (ps_expr (pe_bm PySem.F.plainAttrs_list PySem.F.slot_list_extend PySem.F.type_list_extend mt_extend (pv 1) (pa_cons (pe_ifExp (pt_val (pe_callB call_isV (by rfl) gisinstance (by decide +kernel) (pa_cons (pv 0) (pa_cons (pe_glob (v := .ref (ga K "BadNumber")) rfl (gC "BadNumber" (by decide +kernel)) rfl) pa_nil)))) (pe_lst (pa_cons pe_str pa_nil)) (pe_lst pa_nil)) pa_nil))) (pss_cons (ps_expr (pe_bm PySem.F.plainAttrs_list PySem.F.slot_list_extend PySem.F.type_list_extend mt_extend (pv 1) (pa_cons (pe_ifExp (pt_val (pe_callB call_isV (by rfl) gisinstance (by decide +kernel) (pa_cons (pv 0) (pa_cons (pe_glob (v := .ref (ga K "BadSides")) rfl (gC "BadSides" (by decide +kernel)) rfl) pa_nil)))) (pe_lst (pa_cons pe_str pa_nil)) (pe_lst pa_nil)) pa_nil))) (pss_cons (ps_expr (pe_bm PySem.F.plainAttrs_list PySem.F.slot_list_extend PySem.F.type_list_extend mt_extend (pv 1) (pa_cons (pe_ifExp (pt_val (pe_callB call_isV (by rfl) gisinstance (by decide +kernel) (pa_cons (pv 0) (pa_cons (pe_glob (v := .ref (ga K "BadMiddle")) rfl (gC "BadMiddle" (by decide +kernel)) rfl) pa_nil)))) (pe_lst (pa_cons pe_str pa_nil)) (pe_lst pa_nil)) pa_nil))) (pss_cons (ps_expr (pe_bm PySem.F.plainAttrs_list PySem.F.slot_list_extend PySem.F.type_list_extend mt_extend (pv 1) (pa_cons (pe_ifExp (pt_val (pe_callB call_isV (by rfl) gisinstance (by decide +kernel) (pa_cons (pv 0) (pa_cons (pe_glob (v := .ref (ga K "BadFloor")) rfl (gC "BadFloor" (by decide +kernel)) rfl) pa_nil)))) (pe_lst (pa_cons pe_str pa_nil)) (pe_lst pa_nil)) pa_nil))) (pss_cons (ps_expr (pe_bm PySem.F.plainAttrs_list PySem.F.slot_list_extend PySem.F.type_list_extend mt_extend (pv 1) (pa_cons (pe_ifExp (pt_val (pe_callB call_isV (by rfl) gisinstance (by decide +kernel) (pa_cons (pv 0) (pa_cons (pe_glob (v := .ref (ga K "Barred")) rfl (gC "Barred" (by decide +kernel)) rfl) pa_nil)))) (pe_lst (pa_cons pe_str pa_nil)) (pe_lst pa_nil)) pa_nil))) (pss_cons (ps_expr (pe_bm PySem.F.plainAttrs_list PySem.F.slot_list_extend PySem.F.type_list_extend mt_extend (pv 1) (pa_cons (pe_ifExp (pt_val (pe_callB call_isV (by rfl) gisinstance (by decide +kernel) (pa_cons (pv 0) (pa_cons (pe_glob (v := .ref (ga K "NotPlain")) rfl (gC "NotPlain" (by decide +kernel)) rfl) pa_nil)))) (pe_lst (pa_cons pe_str pa_nil)) (pe_lst pa_nil)) pa_nil))) (pss_cons (ps_expr (pe_bm PySem.F.plainAttrs_list PySem.F.slot_list_extend PySem.F.type_list_extend mt_extend (pv 1) (pa_cons (pe_ifExp (pt_val (pe_callB call_isV (by rfl) gisinstance (by decide +kernel) (pa_cons (pv 0) (pa_cons (pe_glob (v := .ref (ga K "TooHigh")) rfl (gC "TooHigh" (by decide +kernel)) rfl) pa_nil)))) (pe_lst (pa_cons pe_str pa_nil)) (pe_lst pa_nil)) pa_nil))) (pss_one (ps_ret (pe_op op_cat (pv 1) (pe_d D_law_more_words hr_law_more_words hg rfl (pa_cons (pv 0) pa_nil))))))))))))))))))))))))))), ?_⟩
    refine ⟨by show 0 ≤ sizeLine; decide, fun p hp => ?_⟩
    have b0 := B.same (Same.new (o := .lst []) hp)
    have hp0 : upd H p (.lst []) p = some (.lst ((([] : List Str).filter fun y => decide (y = x)).map V.str)) := upd_same
    have S0 : Same H (upd H p (.lst [])) := Same.new hp
    refine w_step (y := "BadPolynomial") T nb hx (by decide +kernel) b0 hp0 (by decide) S0 hp (fun H1 b1 hp1 S1 => ?_)
    refine w_step (y := "Nought") T nb hx (by decide +kernel) b1 hp1 (by decide) S1 hp (fun H2 b2 hp2 S2 => ?_)
    refine w_step (y := "BadBeats") T nb hx (by decide +kernel) b2 hp2 (by decide) S2 hp (fun H3 b3 hp3 S3 => ?_)
    refine w_step (y := "TooLong") T nb hx (by decide +kernel) b3 hp3 (by decide) S3 hp (fun H4 b4 hp4 S4 => ?_)
    refine w_step (y := "NoMeasure") T nb hx (by decide +kernel) b4 hp4 (by decide) S4 hp (fun H5 b5 hp5 S5 => ?_)
    refine w_step (y := "BadSize") T nb hx (by decide +kernel) b5 hp5 (by decide) S5 hp (fun H6 b6 hp6 S6 => ?_)
    refine w_step (y := "BadRule") T nb hx (by decide +kernel) b6 hp6 (by decide) S6 hp (fun H7 b7 hp7 S7 => ?_)
    refine w_step (y := "NotEven") T nb hx (by decide +kernel) b7 hp7 (by decide) S7 hp (fun H8 b8 hp8 S8 => ?_)
    refine w_step (y := "BadKind") T nb hx (by decide +kernel) b8 hp8 (by decide) S8 hp (fun H9 b9 hp9 S9 => ?_)
    refine w_step (y := "BadRow") T nb hx (by decide +kernel) b9 hp9 (by decide) S9 hp (fun H10 b10 hp10 S10 => ?_)
    refine w_step (y := "OtherSize") T nb hx (by decide +kernel) b10 hp10 (by decide) S10 hp (fun H11 b11 hp11 S11 => ?_)
    refine w_step (y := "Garden") T nb hx (by decide +kernel) b11 hp11 (by decide) S11 hp (fun H12 b12 hp12 S12 => ?_)
    refine w_step (y := "TooMany") T nb hx (by decide +kernel) b12 hp12 (by decide) S12 hp (fun H13 b13 hp13 S13 => ?_)
    refine w_step (y := "Loses") T nb hx (by decide +kernel) b13 hp13 (by decide) S13 hp (fun H14 b14 hp14 S14 => ?_)
    refine w_step (y := "BadNumber") T nb hx (by decide +kernel) b14 hp14 (by decide) S14 hp (fun H15 b15 hp15 S15 => ?_)
    refine w_step (y := "BadSides") T nb hx (by decide +kernel) b15 hp15 (by decide) S15 hp (fun H16 b16 hp16 S16 => ?_)
    refine w_step (y := "BadMiddle") T nb hx (by decide +kernel) b16 hp16 (by decide) S16 hp (fun H17 b17 hp17 S17 => ?_)
    refine w_step (y := "BadFloor") T nb hx (by decide +kernel) b17 hp17 (by decide) S17 hp (fun H18 b18 hp18 S18 => ?_)
    refine w_step (y := "Barred") T nb hx (by decide +kernel) b18 hp18 (by decide) S18 hp (fun H19 b19 hp19 S19 => ?_)
    refine w_step (y := "NotPlain") T nb hx (by decide +kernel) b19 hp19 (by decide) S19 hp (fun H20 b20 hp20 S20 => ?_)
    refine w_step (y := "TooHigh") T nb hx (by decide +kernel) b20 hp20 (by decide) S20 hp (fun H21 b21 hp21 S21 => ?_)
    refine ⟨_, rfl, _, rfl, e, x, v, rfl, hx, b21, fun G r hr' s e' => ?_⟩
    refine ⟨p, r, _, _, rfl, rfl, s _ _ hp21, e', ?_, fun z hz => q _ z ?_ ((S21.trans s).trans (Same.new hz)) ?_⟩
    · have h1 := List.length_filter_le (fun y => decide (y = x)) ws1
      have h2 := List.length_filter_le (fun y => decide (y = x)) ws2
      have h3 : ws1.length = 21 := rfl
      have h4 : ws2.length = 20 := rfl
      rw [List.length_map, List.length_map, sizeLine_eq]
      show (ws1.filter fun y => decide (y = x)).length + _ ≤ _
      omega
    · exact (S21.trans s).free hz
    · rw [upd_same, show (ws1 ++ ws2).filter (fun y => decide (y = x)) = ws1.filter (fun y => decide (y = x)) ++ ws2.filter (fun y => decide (y = x)) from List.filter_append _ _, List.map_append]
      rfl
abbrev N_law_more_made : List Str := ["_law_value", "_law_found"]
theorem sc_law_more_made : FnScope ["_law_value", "_law_found"] ["_law_value"] (defScope s_law_more_made) := ⟨rfl, rfl, rfl, by decide +kernel, rfl, by decide +kernel, by decide +kernel⟩
theorem ok_law_more_made (T : Excs K "LampError" cls fI) (gC : ∀ x ∈ allC, mg x = some (.ref (ga K x))) (F : FnP K "_law_more_made" s_law_more_made f fd) (hm : mg "_law_more_made" = some (.ref f)) :
    DefOk P w K mg base "_law_more_made" 1 ["_law_value"] (spMade K ws2) := by
  refine def_mk F hm (F.bindsN fun _ _ _ _ _ _ us hl => match us, hl with | [_], _ => rfl) (fnG_of F sc_law_more_made (fun v H Q E h => ?_) (fun cd A o s H vs Q E hr hg h => ?_))
  · obtain ⟨v, rfl, _⟩ := h; rfl
  · obtain ⟨v, rfl, q⟩ := h
    refine ⟨_, (pss_cons (ps_set (i := 1) sc_law_more_made.nd rfl (Or.inl rfl) (pe_lst pa_nil)) (pss_cons (ps_expr (pe_bm PySem.F.plainAttrs_list PySem.F.slot_list_append PySem.F.type_list_append mt_append (pv 1) (pa_cons (pe_tup (pa_cons pe_str (pa_cons (pe_mkE (T.ext (x := "NotQuiet") (by decide +kernel)) hr (gC "NotQuiet" (by decide +kernel)) rfl (pa_cons (pv 0) pa_nil)) pa_nil))) pa_nil))) (pss_cons (ps_expr (pe_bm PySem.F.plainAttrs_list PySem.F.slot_list_append PySem.F.type_list_append mt_append (pv 1) (pa_cons (pe_tup (pa_cons pe_str (pa_cons (pe_mkE (T.ext (x := "NoSpread") (by decide +kernel)) hr (gC "NoSpread" (by decide +kernel)) rfl (pa_cons (pv 0) pa_nil)) pa_nil))) pa_nil))) (pss_cons (ps_expr (pe_bm PySem.F.plainAttrs_list PySem.F.slot_list_append PySem.F.type_list_append mt_append (pv 1) (pa_cons (pe_tup (pa_cons pe_str (pa_cons (pe_mkE (T.ext (x := "BadPicture") (by decide +kernel)) hr (gC "BadPicture" (by decide +kernel)) rfl (pa_cons (pv 0) pa_nil)) pa_nil))) pa_nil))) (pss_cons (ps_expr (pe_bm PySem.F.plainAttrs_list PySem.F.slot_list_append PySem.F.type_list_append mt_append (pv 1) (pa_cons (pe_tup (pa_cons pe_str (pa_cons (pe_mkE (T.ext (x := "BadPlace") (by decide +kernel)) hr (gC "BadPlace" (by decide +kernel)) rfl (pa_cons (pv 0) pa_nil)) pa_nil))) pa_nil))) (pss_cons (ps_expr (pe_bm PySem.F.plainAttrs_list PySem.F.slot_list_append PySem.F.type_list_append mt_append (pv 1) (pa_cons (pe_tup (pa_cons pe_str (pa_cons (pe_mkE (T.ext (x := "TooWide") (by decide +kernel)) hr (gC "TooWide" (by decide +kernel)) rfl (pa_cons (pv 0) pa_nil)) pa_nil))) pa_nil))) (pss_cons (ps_expr (pe_bm PySem.F.plainAttrs_list PySem.F.slot_list_append PySem.F.type_list_append mt_append (pv 1) (pa_cons (pe_tup (pa_cons pe_str (pa_cons (pe_mkE (T.ext (x := "Endless") (by decide +kernel)) hr (gC "Endless" (by decide +kernel)) rfl (pa_cons (pv 0) pa_nil)) pa_nil))) pa_nil))) (pss_cons (ps_expr (pe_bm PySem.F.plainAttrs_list PySem.F.slot_list_append PySem.F.type_list_append mt_append (pv 1) (pa_cons (pe_tup (pa_cons pe_str (pa_cons (pe_mkE (T.ext (x := "BadLooks") (by decide +kernel)) hr (gC "BadLooks" (by decide +kernel)) rfl (pa_cons (pv 0) pa_nil)) pa_nil))) pa_nil))) (pss_cons (ps_expr (pe_bm PySem.F.plainAttrs_list PySem.F.slot_list_append PySem.F.type_list_append mt_append (pv 1) (pa_cons (pe_tup (pa_cons pe_str (pa_cons (pe_mkE (T.ext (x := "BadLook") (by decide +kernel)) hr (gC "BadLook" (by decide +kernel)) rfl (pa_cons (pv 0) pa_nil)) pa_nil))) pa_nil))) (pss_cons (ps_expr (pe_bm PySem.F.plainAttrs_list PySem.F.slot_list_append PySem.F.type_list_append mt_append (pv 1) (pa_cons (pe_tup (pa_cons pe_str (pa_cons (pe_mkE (T.ext (x := "Held") (by decide +kernel)) hr (gC "Held" (by decide +kernel)) rfl (pa_cons (pv 0) pa_nil)) pa_nil))) pa_nil))) (pss_cons (ps_expr (pe_bm PySem.F.plainAttrs_list PySem.F.slot_list_append PySem.F.type_list_append mt_append (pv 1) (pa_cons (pe_tup (pa_cons pe_str (pa_cons (pe_mkE (T.ext (x := "Full") (by decide +kernel)) hr (gC "Full" (by decide +kernel)) rfl (pa_cons (pv 0) pa_nil)) pa_nil))) pa_nil))) (pss_cons (ps_expr (pe_bm PySem.F.plainAttrs_list PySem.F.slot_list_append PySem.F.type_list_append mt_append (pv 1) (pa_cons (pe_tup (pa_cons pe_str (pa_cons (pe_mkE (T.ext (x := "NoLook") (by decide +kernel)) hr (gC "NoLook" (by decide +kernel)) rfl (pa_cons (pv 0) pa_nil)) pa_nil))) pa_nil))) (pss_cons (ps_expr (pe_bm PySem.F.plainAttrs_list PySem.F.slot_list_append PySem.F.type_list_append mt_append (pv 1) (pa_cons (pe_tup (pa_cons pe_str (pa_cons (pe_mkE (T.ext (x := "Quarrel") (by decide +kernel)) hr (gC "Quarrel" (by decide +kernel)) rfl (pa_cons (pv 0) pa_nil)) pa_nil))) pa_nil))) (pss_cons (ps_expr (pe_bm PySem.F.plainAttrs_list PySem.F.slot_list_append PySem.F.type_list_append mt_append (pv 1) (pa_cons (pe_tup (pa_cons pe_str (pa_cons (pe_mkE (T.ext (x := "BadOffers") (by decide +kernel)) hr (gC "BadOffers" (by decide +kernel)) rfl (pa_cons (pv 0) pa_nil)) pa_nil))) pa_nil))) (pss_cons (ps_expr (pe_bm PySem.F.plainAttrs_list PySem.F.slot_list_append PySem.F.type_list_append mt_append (pv 1) (pa_cons (pe_tup (pa_cons pe_str (pa_cons (pe_mkE (T.ext (x := "BadPlaces") (by decide +kernel)) hr (gC "BadPlaces" (by decide +kernel)) rfl (pa_cons (pv 0) pa_nil)) pa_nil))) pa_nil))) (pss_cons (ps_expr (pe_bm PySem.F.plainAttrs_list PySem.F.slot_list_append PySem.F.type_list_append mt_append (pv 1) (pa_cons (pe_tup (pa_cons pe_str (pa_cons (pe_mkE (T.ext (x := "BadPresses") (by decide +kernel)) hr (gC "BadPresses" (by decide +kernel)) rfl (pa_cons (pv 0) pa_nil)) pa_nil))) pa_nil))) (pss_cons (ps_expr (pe_bm PySem.F.plainAttrs_list PySem.F.slot_list_append PySem.F.type_list_append mt_append (pv 1) (pa_cons (pe_tup (pa_cons pe_str (pa_cons (pe_mkE (T.ext (x := "NothingToUndo") (by decide +kernel)) hr (gC "NothingToUndo" (by decide +kernel)) rfl (pa_cons (pv 0) pa_nil)) pa_nil))) pa_nil))) (pss_cons (ps_expr (pe_bm PySem.F.plainAttrs_list PySem.F.slot_list_append PySem.F.type_list_append mt_append (pv 1) (pa_cons (pe_tup (pa_cons pe_str (pa_cons (pe_mkE (T.ext (x := "NothingToRedo") (by decide +kernel)) hr (gC "NothingToRedo" (by decide +kernel)) rfl (pa_cons (pv 0) pa_nil)) pa_nil))) pa_nil))) (pss_cons (ps_expr (pe_bm PySem.F.plainAttrs_list PySem.F.slot_list_append PySem.F.type_list_append mt_append (pv 1) (pa_cons (pe_tup (pa_cons pe_str (pa_cons (pe_mkE (T.ext (x := "NoTrial") (by decide +kernel)) hr (gC "NoTrial" (by decide +kernel)) rfl (pa_cons (pv 0) pa_nil)) pa_nil))) pa_nil))) (pss_cons (ps_expr (pe_bm PySem.F.plainAttrs_list PySem.F.slot_list_append PySem.F.type_list_append mt_append (pv 1) (pa_cons (pe_tup (pa_cons pe_str (pa_cons (pe_mkE (T.ext (x := "BadJournal") (by decide +kernel)) hr (gC "BadJournal" (by decide +kernel)) rfl (pa_cons (pv 0) pa_nil)) pa_nil))) pa_nil))) (pss_cons (ps_expr (pe_bm PySem.F.plainAttrs_list PySem.F.slot_list_append PySem.F.type_list_append mt_append (pv 1) (pa_cons (pe_tup (pa_cons pe_str (pa_cons (pe_mkE (T.ext (x := "BadLine") (by decide +kernel)) hr (gC "BadLine" (by decide +kernel)) rfl (pa_cons (pv 0) pa_nil)) pa_nil))) pa_nil))) (pss_one (ps_ret (pv 1)))))))))))))))))))))))), ?_⟩
    refine ⟨by show 0 ≤ sizeLine; decide, fun p hp => ?_⟩
    have M0 : BL.Made K v (upd H p (.lst [])) [] [] := .nil
    have hp0 : upd H p (.lst []) p = some (.lst []) := upd_same
    have S0 : Same H (upd H p (.lst [])) := Same.new hp
    refine m_step (x := "NotQuiet") M0 hp0 (by decide) S0 hp (fun H1 it1 M1 hp1 S1 => ?_)
    refine m_step (x := "NoSpread") M1 hp1 (by decide) S1 hp (fun H2 it2 M2 hp2 S2 => ?_)
    refine m_step (x := "BadPicture") M2 hp2 (by decide) S2 hp (fun H3 it3 M3 hp3 S3 => ?_)
    refine m_step (x := "BadPlace") M3 hp3 (by decide) S3 hp (fun H4 it4 M4 hp4 S4 => ?_)
    refine m_step (x := "TooWide") M4 hp4 (by decide) S4 hp (fun H5 it5 M5 hp5 S5 => ?_)
    refine m_step (x := "Endless") M5 hp5 (by decide) S5 hp (fun H6 it6 M6 hp6 S6 => ?_)
    refine m_step (x := "BadLooks") M6 hp6 (by decide) S6 hp (fun H7 it7 M7 hp7 S7 => ?_)
    refine m_step (x := "BadLook") M7 hp7 (by decide) S7 hp (fun H8 it8 M8 hp8 S8 => ?_)
    refine m_step (x := "Held") M8 hp8 (by decide) S8 hp (fun H9 it9 M9 hp9 S9 => ?_)
    refine m_step (x := "Full") M9 hp9 (by decide) S9 hp (fun H10 it10 M10 hp10 S10 => ?_)
    refine m_step (x := "NoLook") M10 hp10 (by decide) S10 hp (fun H11 it11 M11 hp11 S11 => ?_)
    refine m_step (x := "Quarrel") M11 hp11 (by decide) S11 hp (fun H12 it12 M12 hp12 S12 => ?_)
    refine m_step (x := "BadOffers") M12 hp12 (by decide) S12 hp (fun H13 it13 M13 hp13 S13 => ?_)
    refine m_step (x := "BadPlaces") M13 hp13 (by decide) S13 hp (fun H14 it14 M14 hp14 S14 => ?_)
    refine m_step (x := "BadPresses") M14 hp14 (by decide) S14 hp (fun H15 it15 M15 hp15 S15 => ?_)
    refine m_step (x := "NothingToUndo") M15 hp15 (by decide) S15 hp (fun H16 it16 M16 hp16 S16 => ?_)
    refine m_step (x := "NothingToRedo") M16 hp16 (by decide) S16 hp (fun H17 it17 M17 hp17 S17 => ?_)
    refine m_step (x := "NoTrial") M17 hp17 (by decide) S17 hp (fun H18 it18 M18 hp18 S18 => ?_)
    refine m_step (x := "BadJournal") M18 hp18 (by decide) S18 hp (fun H19 it19 M19 hp19 S19 => ?_)
    refine m_step (x := "BadLine") M19 hp19 (by decide) S19 hp (fun H20 it20 M20 hp20 S20 => ?_)
    exact ⟨_, rfl, q H20 p _ hp S20 hp20 M20⟩
abbrev N_law_made : List Str := ["_law_value", "_law_found"]
theorem sc_law_made : FnScope ["_law_value", "_law_found"] ["_law_value"] (defScope s_law_made) := ⟨rfl, rfl, rfl, by decide +kernel, rfl, by decide +kernel, by decide +kernel⟩
theorem ok_law_made (T : Excs K "LampError" cls fI) (gC : ∀ x ∈ allC, mg x = some (.ref (ga K x))) (F : FnP K "_law_made" s_law_made f fd) (hm : mg "_law_made" = some (.ref f))
    (D_law_more_made : DefOk P w K mg base "_law_more_made" 1 ["_law_value"] (spMade K ws2)) :
    DefOk P w K mg base "_law_made" 2 ["_law_value"] (spMade K ("LampError" :: (ws1 ++ ws2))) := by
  refine def_mk F hm (F.bindsN fun _ _ _ _ _ _ us hl => match us, hl with | [_], _ => rfl) (fnG_of F sc_law_made (fun v H Q E h => ?_) (fun cd A o s H vs Q E hr hg h => ?_))
  · obtain ⟨v, rfl, _⟩ := h; rfl
  · obtain ⟨v, rfl, q⟩ := h
    have hr_law_more_made := hr
    refine ⟨_, (pss_cons (ps_set (i := 1) sc_law_made.nd rfl (Or.inl rfl) (pe_lst (pa_cons (pe_tup (pa_cons pe_str (pa_cons (pe_mkE T.extB hr (gC "LampError" (by decide +kernel)) rfl (pa_cons (pv 0) pa_nil)) pa_nil))) pa_nil))) (pss_cons (ps_expr (pe_bm PySem.F.plainAttrs_list PySem.F.slot_list_append PySem.F.type_list_append mt_append (pv 1) (pa_cons (pe_tup (pa_cons pe_str (pa_cons (pe_mkE (T.ext (x := "BadPolynomial") (by decide +kernel)) hr (gC "BadPolynomial" (by decide +kernel)) rfl (pa_cons (pv 0) pa_nil)) pa_nil))) pa_nil))) (pss_cons (ps_expr (pe_bm PySem.F.plainAttrs_list PySem.F.slot_list_append PySem.F.type_list_append mt_append (pv 1) (pa_cons (pe_tup (pa_cons pe_str (pa_cons (pe_mkE (T.ext (x := "Nought") (by decide +kernel)) hr (gC "Nought" (by decide +kernel)) rfl (pa_cons (pv 0) pa_nil)) pa_nil))) pa_nil))) (pss_cons (ps_expr (pe_bm PySem.F.plainAttrs_list PySem.F.slot_list_append PySem.F.type_list_append mt_append (pv 1) (pa_cons (pe_tup (pa_cons pe_str (pa_cons (pe_mkE (T.ext (x := "BadBeats") (by decide +kernel)) hr (gC "BadBeats" (by decide +kernel)) rfl (pa_cons (pv 0) pa_nil)) pa_nil))) pa_nil))) (pss_cons (ps_expr (pe_bm PySem.F.plainAttrs_list PySem.F.slot_list_append PySem.F.type_list_append mt_append (pv 1) (pa_cons (pe_tup (pa_cons pe_str (pa_cons (pe_mkE (T.ext (x := "TooLong") (by decide +kernel)) hr (gC "TooLong" (by decide +kernel)) rfl (pa_cons (pv 0) pa_nil)) pa_nil))) pa_nil))) (pss_cons (ps_expr (pe_bm PySem.F.plainAttrs_list PySem.F.slot_list_append PySem.F.type_list_append mt_append (pv 1) (pa_cons (pe_tup (pa_cons pe_str (pa_cons (pe_mkE (T.ext (x := "NoMeasure") (by decide +kernel)) hr (gC "NoMeasure" (by decide +kernel)) rfl (pa_cons (pv 0) pa_nil)) pa_nil))) pa_nil))) (pss_cons (ps_expr (pe_bm PySem.F.plainAttrs_list PySem.F.slot_list_append PySem.F.type_list_append mt_append (pv 1) (pa_cons (pe_tup (pa_cons pe_str (pa_cons (pe_mkE (T.ext (x := "BadSize") (by decide +kernel)) hr (gC "BadSize" (by decide +kernel)) rfl (pa_cons (pv 0) pa_nil)) pa_nil))) pa_nil))) (pss_cons (ps_expr (pe_bm PySem.F.plainAttrs_list PySem.F.slot_list_append PySem.F.type_list_append mt_append (pv 1) (pa_cons (pe_tup (pa_cons pe_str (pa_cons (pe_mkE (T.ext (x := "BadRule") (by decide +kernel)) hr (gC "BadRule" (by decide +kernel)) rfl (pa_cons (pv 0) pa_nil)) pa_nil))) pa_nil))) (pss_cons (ps_expr (pe_bm PySem.F.plainAttrs_list PySem.F.slot_list_append PySem.F.type_list_append mt_append (pv 1) (pa_cons (pe_tup (pa_cons pe_str (pa_cons (pe_mkE (T.ext (x := "NotEven") (by decide +kernel)) hr (gC "NotEven" (by decide +kernel)) rfl (pa_cons (pv 0) pa_nil)) pa_nil))) pa_nil))) (pss_cons (ps_expr (pe_bm PySem.F.plainAttrs_list PySem.F.slot_list_append PySem.F.type_list_append mt_append (pv 1) (pa_cons (pe_tup (pa_cons pe_str (pa_cons (pe_mkE (T.ext (x := "BadKind") (by decide +kernel)) hr (gC "BadKind" (by decide +kernel)) rfl (pa_cons (pv 0) pa_nil)) pa_nil))) pa_nil))) (pss_cons (ps_expr (pe_bm PySem.F.plainAttrs_list PySem.F.slot_list_append PySem.F.type_list_append mt_append (pv 1) (pa_cons (pe_tup (pa_cons pe_str (pa_cons (pe_mkE (T.ext (x := "BadRow") (by decide +kernel)) hr (gC "BadRow" (by decide +kernel)) rfl (pa_cons (pv 0) pa_nil)) pa_nil))) pa_nil))) (pss_cons (ps_expr (pe_bm PySem.F.plainAttrs_list PySem.F.slot_list_append PySem.F.type_list_append mt_append (pv 1) (pa_cons (pe_tup (pa_cons pe_str (pa_cons (pe_mkE (T.ext (x := "OtherSize") (by decide +kernel)) hr (gC "OtherSize" (by decide +kernel)) rfl (pa_cons (pv 0) pa_nil)) pa_nil))) pa_nil))) (pss_cons (ps_expr (pe_bm PySem.F.plainAttrs_list PySem.F.slot_list_append PySem.F.type_list_append mt_append (pv 1) (pa_cons (pe_tup (pa_cons pe_str (pa_cons (pe_mkE (T.ext (x := "Garden") (by decide +kernel)) hr (gC "Garden" (by decide +kernel)) rfl (pa_cons (pv 0) pa_nil)) pa_nil))) pa_nil))) (pss_cons (ps_expr (pe_bm PySem.F.plainAttrs_list PySem.F.slot_list_append PySem.F.type_list_append mt_append (pv 1) (pa_cons (pe_tup (pa_cons pe_str (pa_cons (pe_mkE (T.ext (x := "TooMany") (by decide +kernel)) hr (gC "TooMany" (by decide +kernel)) rfl (pa_cons (pv 0) pa_nil)) pa_nil))) pa_nil))) (pss_cons (ps_expr (pe_bm PySem.F.plainAttrs_list PySem.F.slot_list_append PySem.F.type_list_append mt_append (pv 1) (pa_cons (pe_tup (pa_cons pe_str (pa_cons (pe_mkE (T.ext (x := "Loses") (by decide +kernel)) hr (gC "Loses" (by decide +kernel)) rfl (pa_cons (pv 0) pa_nil)) pa_nil))) pa_nil))) (pss_cons (ps_expr (pe_bm PySem.F.plainAttrs_list PySem.F.slot_list_append PySem.F.type_list_append mt_append (pv 1) (pa_cons (pe_tup (pa_cons pe_str (pa_cons (pe_mkE (T.ext (x := "BadNumber") (by decide +kernel)) hr (gC "BadNumber" (by decide +kernel)) rfl (pa_cons (pv 0) pa_nil)) pa_nil))) pa_nil))) (pss_cons (ps_expr (pe_bm PySem.F.plainAttrs_list PySem.F.slot_list_append PySem.F.type_list_append mt_append (pv 1) (pa_cons (pe_tup (pa_cons pe_str (pa_cons (pe_mkE (T.ext (x := "BadSides") (by decide +kernel)) hr (gC "BadSides" (by decide +kernel)) rfl (pa_cons (pv 0) pa_nil)) pa_nil))) pa_nil))) (pss_cons (ps_expr (pe_bm PySem.F.plainAttrs_list PySem.F.slot_list_append PySem.F.type_list_append mt_append (pv 1) (pa_cons (pe_tup (pa_cons pe_str (pa_cons (pe_mkE (T.ext (x := "BadMiddle") (by decide +kernel)) hr (gC "BadMiddle" (by decide +kernel)) rfl (pa_cons (pv 0) pa_nil)) pa_nil))) pa_nil))) (pss_cons (ps_expr (pe_bm PySem.F.plainAttrs_list PySem.F.slot_list_append PySem.F.type_list_append mt_append (pv 1) (pa_cons (pe_tup (pa_cons pe_str (pa_cons (pe_mkE (T.ext (x := "BadFloor") (by decide +kernel)) hr (gC "BadFloor" (by decide +kernel)) rfl (pa_cons (pv 0) pa_nil)) pa_nil))) pa_nil))) (pss_cons (ps_expr (pe_bm PySem.F.plainAttrs_list PySem.F.slot_list_append PySem.F.type_list_append mt_append (pv 1) (pa_cons (pe_tup (pa_cons pe_str (pa_cons (pe_mkE (T.ext (x := "Barred") (by decide +kernel)) hr (gC "Barred" (by decide +kernel)) rfl (pa_cons (pv 0) pa_nil)) pa_nil))) pa_nil))) (pss_cons (ps_expr (pe_bm PySem.F.plainAttrs_list PySem.F.slot_list_append PySem.F.type_list_append mt_append (pv 1) (pa_cons (pe_tup (pa_cons pe_str (pa_cons (pe_mkE (T.ext (x := "NotPlain") (by decide +kernel)) hr (gC "NotPlain" (by decide +kernel)) rfl (pa_cons (pv 0) pa_nil)) pa_nil))) pa_nil))) (pss_cons (ps_expr (pe_bm PySem.F.plainAttrs_list PySem.F.slot_list_append PySem.F.type_list_append mt_append (pv 1) (pa_cons (pe_tup (pa_cons pe_str (pa_cons (pe_mkE (T.ext (x := "TooHigh") (by decide +kernel)) hr (gC "TooHigh" (by decide +kernel)) rfl (pa_cons (pv 0) pa_nil)) pa_nil))) pa_nil))) (pss_one (ps_ret (pe_op op_cat (pv 1) (pe_d D_law_more_made hr_law_more_made hg rfl (pa_cons (pv 0) pa_nil))))))))))))))))))))))))))), ?_⟩
    refine ⟨_, rfl, v, rfl, fun e d he hd ne => ⟨by show 2 ≤ sizeLine; decide, fun t ht => ⟨by show 1 ≤ sizeLine; decide, fun p hp' => ?_⟩⟩⟩
    obtain ⟨H0, s0, m, z⟩ : ∃ G, Same H G ∧ MadeAt K v G "LampError" (.ref t) ∧ upd (put2 H e (ga K "LampError") d v) t (.tup [V.str "LampError", V.ref e]) = G :=
      ⟨_, (put2_same he hd).trans (Same.new ht), ⟨t, e, rfl, upd_same, (put2_bears ne).same (Same.new ht)⟩, rfl⟩
    rw [z] at hp' ⊢
    have hp := s0.free hp'
    have M0 : BL.Made K v (upd H0 p (.lst [.ref t])) ["LampError"] [.ref t] := .cons (m.same (Same.new hp')) .nil
    have hp0 : upd H0 p (.lst [.ref t]) p = some (.lst [.ref t]) := upd_same
    have S0 : Same H (upd H0 p (.lst [.ref t])) := s0.trans (Same.new hp')
    refine m_step (x := "BadPolynomial") M0 hp0 (by decide) S0 hp (fun H1 it1 M1 hp1 S1 => ?_)
    refine m_step (x := "Nought") M1 hp1 (by decide) S1 hp (fun H2 it2 M2 hp2 S2 => ?_)
    refine m_step (x := "BadBeats") M2 hp2 (by decide) S2 hp (fun H3 it3 M3 hp3 S3 => ?_)
    refine m_step (x := "TooLong") M3 hp3 (by decide) S3 hp (fun H4 it4 M4 hp4 S4 => ?_)
    refine m_step (x := "NoMeasure") M4 hp4 (by decide) S4 hp (fun H5 it5 M5 hp5 S5 => ?_)
    refine m_step (x := "BadSize") M5 hp5 (by decide) S5 hp (fun H6 it6 M6 hp6 S6 => ?_)
    refine m_step (x := "BadRule") M6 hp6 (by decide) S6 hp (fun H7 it7 M7 hp7 S7 => ?_)
    refine m_step (x := "NotEven") M7 hp7 (by decide) S7 hp (fun H8 it8 M8 hp8 S8 => ?_)
    refine m_step (x := "BadKind") M8 hp8 (by decide) S8 hp (fun H9 it9 M9 hp9 S9 => ?_)
    refine m_step (x := "BadRow") M9 hp9 (by decide) S9 hp (fun H10 it10 M10 hp10 S10 => ?_)
    refine m_step (x := "OtherSize") M10 hp10 (by decide) S10 hp (fun H11 it11 M11 hp11 S11 => ?_)
    refine m_step (x := "Garden") M11 hp11 (by decide) S11 hp (fun H12 it12 M12 hp12 S12 => ?_)
    refine m_step (x := "TooMany") M12 hp12 (by decide) S12 hp (fun H13 it13 M13 hp13 S13 => ?_)
    refine m_step (x := "Loses") M13 hp13 (by decide) S13 hp (fun H14 it14 M14 hp14 S14 => ?_)
    refine m_step (x := "BadNumber") M14 hp14 (by decide) S14 hp (fun H15 it15 M15 hp15 S15 => ?_)
    refine m_step (x := "BadSides") M15 hp15 (by decide) S15 hp (fun H16 it16 M16 hp16 S16 => ?_)
    refine m_step (x := "BadMiddle") M16 hp16 (by decide) S16 hp (fun H17 it17 M17 hp17 S17 => ?_)
    refine m_step (x := "BadFloor") M17 hp17 (by decide) S17 hp (fun H18 it18 M18 hp18 S18 => ?_)
    refine m_step (x := "Barred") M18 hp18 (by decide) S18 hp (fun H19 it19 M19 hp19 S19 => ?_)
    refine m_step (x := "NotPlain") M19 hp19 (by decide) S19 hp (fun H20 it20 M20 hp20 S20 => ?_)
    refine m_step (x := "TooHigh") M20 hp20 (by decide) S20 hp (fun H21 it21 M21 hp21 S21 => ?_)
    refine ⟨_, rfl, _, rfl, v, rfl, fun G r its hr' s e' M' => ?_⟩
    refine ⟨p, r, _, _, rfl, rfl, s _ _ hp21, e', ?_, fun z hz => q _ z _ ((S21.trans s).free hz) ((S21.trans s).trans (Same.new hz)) upd_same (((M21.same s).app M').same (Same.new hz))⟩
    rw [← M21.len, ← M'.len, sizeLine_eq]
    decide
end
end K00
set_option Elab.async false
set_option linter.all false
set_option maxRecDepth 100000
set_option maxHeartbeats 8000000
namespace K00
open PySem PySem.Spec PyProof.Rows L2 BL
open He (ga)
section
variable {P : Program} {w : World} {K : PySem.W.Frag} {mg : Str → Option Value} {base : Heap} {f fI : Addr} {fd : FuncData}
/-- three errors that were thrown and caught -/
def spThrown (K : PySem.W.Frag) : Sp := fun vs H Q _ => ∃ v : V, vs = [v] ∧ ∀ H' p a1 a2 a3, H p = none → Same H H' → H' p = some (.lst [.ref a1, .ref a2, .ref a3]) →
  Bears H' a1 (ga K "Quarrel") v → Bears H' a2 (ga K "BadPresses") v → Bears H' a3 (ga K "LampError") v → Q (.ref p) H'
abbrev N_law_thrown : List Str := ["_law_value", "_law_found", "_law_error"]
theorem sc_law_thrown : FnScope ["_law_value", "_law_found", "_law_error"] ["_law_value"] (defScope s_law_thrown) := ⟨rfl, rfl, rfl, by decide +kernel, rfl, by decide +kernel, by decide +kernel⟩
theorem ok_law_thrown (T : Excs K "LampError" cls fI) (gC : ∀ x ∈ ("LampError" : Str) :: cls, mg x = some (.ref (ga K x))) (F : FnP K "_law_thrown" s_law_thrown f fd) (hm : mg "_law_thrown" = some (.ref f)) :
    DefOk P w K mg base "_law_thrown" 1 ["_law_value"] (spThrown K) := by
  refine def_mk F hm (F.bindsN fun _ _ _ _ _ _ us hl => match us, hl with | [_], _ => rfl) (fnG_of F sc_law_thrown (fun v H Q E h => ?_) (fun cd A o s H vs Q E hr hg h => ?_))
  · obtain ⟨v, rfl, _⟩ := h; rfl
  · obtain ⟨v, rfl, q⟩ := h
    refine ⟨_, (pss_cons (ps_set (i := 1) sc_law_thrown.nd rfl (Or.inl rfl) (pe_lst pa_nil)) (pss_cons (ps_try_keep (i := 2) (tb := fun W (_ : Ends) (σ : L2.St) (H : Hp) => tMkX (He.ga K "Quarrel") (tCons (tVar 0) tNil) σ H fun cls d H2 => W cls d σ H2) (ts := fun _ => tDrop (tBM K "list" rAppend (tVar 1) (tCons (tVar 2) tNil))) (Wout := fun _ _ _ _ => False) rfl rfl rfl sc_law_thrown.nd rfl rfl ⟨rfl, by decide, Or.inl (gC "LampError" (by decide +kernel))⟩ L2.takes0 (fun W pn xe tk _ => pss_one (ps_raise rfl tk (pmk_X (T.ext (x := "Quarrel") (by decide +kernel)) hr (gC "Quarrel" (by decide +kernel)) rfl (by exact (pa_cons (pv 0) pa_nil))))) (fun a oe pn => pss_one (ps_expr (by exact (pe_bm PySem.F.plainAttrs_list PySem.F.slot_list_append PySem.F.type_list_append mt_append (pv 1) (pa_cons (pv 2) pa_nil)))))) (pss_cons (ps_try_keep (i := 2) (tb := fun W (_ : Ends) (σ : L2.St) (H : Hp) => tMkX (He.ga K "BadPresses") (tCons (tVar 0) tNil) σ H fun cls d H2 => W cls d σ H2) (ts := fun _ => tDrop (tBM K "list" rAppend (tVar 1) (tCons (tVar 2) tNil))) (Wout := fun _ _ _ _ => False) rfl rfl rfl sc_law_thrown.nd rfl rfl ⟨rfl, by decide, Or.inl (gC "LampError" (by decide +kernel))⟩ L2.takes0 (fun W pn xe tk _ => pss_one (ps_raise rfl tk (pmk_X (T.ext (x := "BadPresses") (by decide +kernel)) hr (gC "BadPresses" (by decide +kernel)) rfl (by exact (pa_cons (pv 0) pa_nil))))) (fun a oe pn => pss_one (ps_expr (by exact (pe_bm PySem.F.plainAttrs_list PySem.F.slot_list_append PySem.F.type_list_append mt_append (pv 1) (pa_cons (pv 2) pa_nil)))))) (pss_cons (ps_try_keep (i := 2) (tb := fun W (_ : Ends) (σ : L2.St) (H : Hp) => tMkX (He.ga K "LampError") (tCons (tVar 0) tNil) σ H fun cls d H2 => W cls d σ H2) (ts := fun _ => tDrop (tBM K "list" rAppend (tVar 1) (tCons (tVar 2) tNil))) (Wout := fun _ _ _ _ => False) rfl rfl rfl sc_law_thrown.nd rfl rfl ⟨rfl, by decide, Or.inl (gC "LampError" (by decide +kernel))⟩ L2.takes0 (fun W pn xe tk _ => pss_one (ps_raise rfl tk (pmk_X T.extB hr (gC "LampError" (by decide +kernel)) rfl (by exact (pa_cons (pv 0) pa_nil))))) (fun a oe pn => pss_one (ps_expr (by exact (pe_bm PySem.F.plainAttrs_list PySem.F.slot_list_append PySem.F.type_list_append mt_append (pv 1) (pa_cons (pv 2) pa_nil)))))) (pss_one (ps_ret (pv 1))))))), ?_⟩
    refine ⟨by show 0 ≤ sizeLine; decide, fun p hp => ?_⟩
    have hp0 : upd H p (.lst []) p = some (.lst []) := upd_same
    refine t_step (x := "Quarrel") T (by decide +kernel) hp0 (by decide) (Same.new hp) hp fun H1 a1 B1 hp1 S1 k1 => ?_
    refine t_step (x := "BadPresses") T (by decide +kernel) hp1 (by simp) S1 hp fun H2 a2 B2 hp2 S2 k2 => ?_
    refine t_step (x := "LampError") T (by decide +kernel) hp2 (by simp) S2 hp fun H3 a3 B3 hp3 S3 k3 => ?_
    exact ⟨_, rfl, q H3 p a1 a2 a3 hp S3 hp3 (k3 _ _ _ (k2 _ _ _ B1)) (k3 _ _ _ B2) B3⟩
end
end K00
set_option Elab.async false
set_option linter.all false
set_option maxRecDepth 100000
set_option maxHeartbeats 8000000
namespace K00
open PySem PySem.Spec PyProof.Rows L2 BL
open He (ga)
section
variable {P : Program} {w : World} {K : PySem.W.Frag} {mg : Str → Option Value} {base : Heap} {f fI : Addr} {fd : FuncData}
theorem allC_eq : ("LampError" : Str) :: (ws1 ++ ws2) = allC := by decide +kernel
theorem words_of : ∀ x ∈ allC, ((ws1 ++ ws2).filter fun y => decide (y = x)) = if x = "LampError" then [] else [x] := by decide +kernel
/-- one value, all errors -/
def spRight : Sp := fun vs H Q _ => ∃ (p : Addr) (n : Nat), vs = [.ref p] ∧ Pot H p n ∧ n ≤ 1000000 ∧ ∀ H', But p H H' → Pot H' p (n + 1) → Q (.bl true) H'
theorem eqv1 : ∀ x ∈ allC, PyData.eqv (.list [.str x]) (.list [.str x]) = true := by decide +kernel
theorem shaped1 : ∀ x ∈ allC, SeqAt.shaped (.list [.str x]) = true := by decide +kernel
theorem pe_reprK {X : Cx} {K : PySem.W.Frag} {e : Expr} {es : List Expr} {p pos : Pos} {t : TA} (hK : X.K = K) (g : X.A.guards = some []) (hu : X.A.units + 64 < cLine) (hg : Gl X "repr") (hm : X.mg "repr" = none) (ha : PA X (e :: es) t)
    (he : starEach (e :: es) X.env = (false, eval e X.env) :: starEach es X.env := by rfl) (hpl : (backTo pos (starEach es X.env)).any (·.1) = false := by rfl) : PE X (.Call (.Name "repr" p) (e :: es) [] pos) (tCB (rRepr K) t) := by
  subst hK
  exact pe_callB (call_repr g hu) hg hm (by decide +kernel) ha (by decide) (by decide) he hpl
theorem pe_valEK {X : Cx} {K : PySem.W.Frag} {e : Expr} {pos : Pos} {te : TE} (hK : X.K = K) (he : PE X e te)
    (hb : attributeBase e "value" X.env (eval e X.env) = eval e X.env := by rfl) : PE X (.Attribute e "value" pos) (tValE K te) := by
  subst hK
  exact pe_valE he hb
abbrev N_law_right : List Str := ["_law_pot_here", "_law_value", "_law_word", "_law_error", "_law_caught"]
theorem sc_law_right : FnScope ["_law_pot_here", "_law_value", "_law_word", "_law_error", "_law_caught"] ["_law_pot_here"] (defScope s_law_right) := ⟨rfl, rfl, rfl, by decide +kernel, rfl, by decide +kernel, by decide +kernel⟩
theorem ok_law_right (T : Excs K "LampError" cls fI) (gC : ∀ x ∈ allC, mg x = some (.ref (ga K x))) (gisinstance : mg "isinstance" = none) (grepr : mg "repr" = none) (gValueError : mg "ValueError" = none)
    (F : FnP K "_law_right" s_law_right f fd) (hm : mg "_law_right" = some (.ref f))
    (D_law_odd : DefOk P w K mg base "_law_odd" 3 ["_law_pot_here"] (spOdd K)) (D_law_made : DefOk P w K mg base "_law_made" 2 ["_law_value"] (spMade K ("LampError" :: (ws1 ++ ws2))))
    (D_law_words : DefOk P w K mg base "_law_words" 2 ["_law_error"] (spWords K (ws1 ++ ws2))) (D_law_thrown : DefOk P w K mg base "_law_thrown" 1 ["_law_value"] (spThrown K)) :
    DefOk P w K mg base "_law_right" 4 ["_law_pot_here"] spRight := by
  refine def_mk F hm (F.bindsN fun _ _ _ _ _ _ us hl => match us, hl with | [_], _ => rfl) (fnG_of F sc_law_right (fun v H Q E h => ?_) (fun cd A o s H vs Q E hr hg h => ?_))
  · obtain ⟨p, n, rfl, _⟩ := h; rfl
  · obtain ⟨p, n, rfl, pot, hn, q⟩ := h
    have hr_law_odd := hr
    have hr_law_made := hr.mono (j := 2) (by decide)
    have hr_law_words := hr.mono (j := 2) (by decide)
    have hr_law_thrown := hr.mono (j := 1) (by decide)
    refine ⟨_, (pss_cons (ps_set (i := 1) sc_law_right.nd rfl (Or.inl rfl) (pe_d D_law_odd hr_law_odd hg rfl (pa_cons (pv 0) pa_nil))) (pss_cons (ps_for (passes_of rfl) rfl (pi_list (pe_d D_law_made hr_law_made hg rfl (pa_cons (pv 1) pa_nil))) (pg_tup rfl (pgs_cons (pg_name (i := 2) sc_law_right.nd rfl (Or.inl rfl)) (pgs_cons (pg_name (i := 3) sc_law_right.nd rfl (Or.inl rfl)) pgs_nil))) (pss_cons (ps_if (PW.pt (pw_or (pt_not (pt_val (pe_callB call_isV (by rfl) gisinstance (by decide +kernel) (pa_cons (pv 3) (pa_cons (pe_glob (v := .ref (ga K "LampError")) rfl (gC "LampError" (by decide +kernel)) rfl) pa_nil))))) (pw_or (pt_not (pt_val (pe_callB call_isV (by rfl) gisinstance (by decide +kernel) (pa_cons (pv 3) (pa_cons (pe_bltn (v := .ty "ValueError") rfl gValueError (by decide +kernel) rfl) pa_nil))))) (pw_or1 (pt_cmpR op_ne (pe_reprK (K := K) rfl (by exact hg) (by exact hr.units) (by rfl) grepr (pa_cons (pe_valEK (K := K) rfl (pv 3)) pa_nil)) (pe_callB (call_repr hg hr.units) (by rfl) grepr (by decide +kernel) (pa_cons (pv 1) pa_nil)) (nomark _)))))) (pss_one (ps_ret pe_bl)) pss_nil) (pss_one (ps_if (pt_cmpR (op_neD hr.units) (pe_d D_law_words hr_law_words hg rfl (pa_cons (pv 3) pa_nil)) (pe_ifExp (pt_cmpR op_ne (pv 2) pe_str (nomark _)) (pe_lst (pa_cons (pv 2) pa_nil)) (pe_lst pa_nil)) (nomark _)) (pss_one (ps_ret pe_bl)) pss_nil)))) (pss_cons (ps_set (i := 4) sc_law_right.nd rfl (Or.inl rfl) (pe_d D_law_thrown hr_law_thrown hg rfl (pa_cons (pv 1) pa_nil))) (pss_cons (ps_if (pt_cmpR (op_neD hr.units) (pe_lc (own := [("_law_error", 3)]) (g := gName 3) rfl sc_law_right.nd (pi_list (pv 4)) (blkOk_by (own := [("_law_error", 3)]) (N := N_law_right) (sc := defScope s_law_right) (by decide +kernel)) (fun _ _ _ _ _ => (pg_name (i := 3) sc_law_right.nd rfl (Or.inl rfl))) (fun _ _ _ _ _ => pts_nil) (fun _ _ _ _ _ => by exact (pe_d D_law_words hr_law_words hg rfl (pa_cons (pv 3) pa_nil)))) (pe_lst (pa_cons (pe_lst (pa_cons pe_str pa_nil)) (pa_cons (pe_lst (pa_cons pe_str pa_nil)) (pa_cons (pe_lst pa_nil) pa_nil)))) (nomark _)) (pss_one (ps_ret pe_bl)) pss_nil) (pss_one (ps_ret (pe_cmpR (op_eqV hr.units) (pe_lc (own := [("_law_error", 3)]) (g := gName 3) rfl sc_law_right.nd (pi_list (pv 4)) (blkOk_by (own := [("_law_error", 3)]) (N := N_law_right) (sc := defScope s_law_right) (by decide +kernel)) (fun _ _ _ _ _ => (pg_name (i := 3) sc_law_right.nd rfl (Or.inl rfl))) (fun _ _ _ _ _ => pts_nil) (fun _ _ _ _ _ => by exact (pe_reprK (K := K) rfl (by exact hg) (by exact hr.units) (by rfl) grepr (pa_cons (pe_valEK (K := K) rfl (pv 3)) pa_nil)))) (pe_op op_rep (pe_lst (pa_cons (pe_callB (call_repr hg hr.units) (by rfl) grepr (by decide +kernel) (pa_cons (pv 1) pa_nil)) pa_nil)) pe_int) (nomark _)))))))), ?_⟩
    refine ⟨_, rfl, p, n, rfl, pot, hn, fun H1 v g0 pot1 g1 => ?_⟩
    obtain ⟨dv, dq, sh, dp, sz⟩ := g1
    refine ⟨_, rfl, v, rfl, fun H2 l its hl S2 hl2 M => ?_⟩
    rw [allC_eq] at M
    refine ⟨l, rfl, ⟨its, SqL.of hl2⟩, for_list (K := K) (a := l) (xs := its) (fun i σ H' => ∃ o2 o3, σ = [some (.ref p), some v, o2, o3, none] ∧ Same H2 H')
      ⟨none, none, rfl, Same.refl _⟩ (fun i σ H' _ ⟨_, _, _, S⟩ => SqL.of (S _ _ hl2)) ?_ ?_⟩
    · rintro i it σ H3 hi ⟨o2, o3, rfl, S3⟩
      obtain ⟨x, hx, ma⟩ := getP (M.same S3) hi
      obtain ⟨t, e, rfl, ht, B⟩ := ma
      have S13 : Same H1 H3 := S2.trans S3
      refine ⟨t, _, rfl, SqT.of ht, rfl, _, _, rfl, _, _, rfl, rfl, ?_⟩
      refine ⟨_, rfl, e, ga K x, fI, v, _, .ref (ga K "LampError"), true, rfl, T.extA hx, B, fun u r => r, T.kitA0 hx, _, rfl, ?_⟩
      refine iteF ?_
      refine ⟨_, rfl, e, ga K x, fI, v, _, .type "ValueError", true, rfl, T.extA hx, B, fun u r => r, T.kitAV hx, _, rfl, ?_⟩
      refine iteF ?_
      refine ⟨_, rfl, e, ga K x, fI, v, rfl, T.extA hx, B, v, dv, rfl, dq.same S13, sh, dp, sz, _, rfl, v, dv, rfl, dq.same S13, sh, dp, sz, rfl, false, by simp, iteF ?_⟩
      refine ⟨_, rfl, e, x, v, rfl, hx, B, fun H4 q hq Sq hq2 => ?_⟩
      rw [words_of x hx] at hq2
      by_cases hxl : x = "LampError"
      · rw [if_pos hxl] at hq2
        refine ⟨_, rfl, rfl, false, by simp [hxl], iteF ⟨by show 0 ≤ sizeLine; decide, fun r hr' => ?_⟩⟩
        refine ⟨.list [], .list [], .lst (SqL.of (Same.new hr' _ _ hq2)) .nil, .lst (SqL.of upd_same) .nil, by decide +kernel, by decide +kernel, false, rfl, iteF ?_⟩
        exact ⟨_, _, rfl, (S3.trans Sq).trans (Same.new hr')⟩
      · rw [if_neg hxl] at hq2
        have shx : SeqAt.shaped (.list [.str x]) = true := shaped1 x hx
        refine ⟨_, rfl, rfl, true, by simp [hxl], iteT ⟨_, rfl, by show 1 ≤ sizeLine; decide, fun r hr' => ?_⟩⟩
        refine ⟨.list [.str x], .list [.str x], .lst (SqL.of (Same.new hr' _ _ hq2)) (.cons (.str x) .nil), .lst (SqL.of upd_same) (.cons (.str x) .nil), shx, shx, false, ?_, iteF ?_⟩
        · rw [eqv1 x hx]; rfl
        · exact ⟨_, _, rfl, (S3.trans Sq).trans (Same.new hr')⟩
    · rintro σ H3 ⟨o2, o3, rfl, S3⟩
      refine ⟨_, rfl, v, rfl, fun H4 c a1 a2 a3 hc S4 hc4 B1 B2 B3 => ?_⟩
      have S14 : Same H1 H4 := (S2.trans S3).trans S4
      refine ⟨_, rfl, c, rfl, ⟨_, SqL.of hc4⟩, fun D hD => lc_dp [.list [.str "Quarrel"], .list [.str "BadPresses"], .list []] hD hc4 rfl (by show 3 ≤ 1000; decide) ?_ ?_⟩
      · intro i y d H5 Q' R' hy hd S5 hDn k
        have one : ∀ a x', x' ∈ allC → Bears H4 a (ga K x') v → y = .ref a → d = .list ((if x' = "LampError" then [] else [x']).map PyData.str) → ∀ W : V → L2.St → Hp → Prop, (∀ z H', Same H5 H' → Dp K (cut H' D) z d → Q' z H') →
            spWords K (ws1 ++ ws2) [y] H5 Q' E0 := by
          intro a x' hx' B' ey ed _ k'
          refine ⟨a, x', v, by rw [ey], hx', B'.same S5, fun H' q hq Sq hq2 => k' _ _ Sq ?_⟩
          rw [words_of x' hx'] at hq2
          rw [ed]
          exact .lst (SqL.of (cut_at (fun z => hDn (by rw [← z]; exact hq)) hq2)) (dp_strs _)
        refine ⟨rfl, yes_if ⟨_, rfl, ?_⟩⟩
        rcases i with _ | _ | _ | i
        · cases hy; cases hd
          exact one a1 "Quarrel" (by decide +kernel) B1 rfl rfl (fun _ _ _ => True) k
        · cases hy; cases hd
          exact one a2 "BadPresses" (by decide +kernel) B2 rfl rfl (fun _ _ _ => True) k
        · cases hy; cases hd
          exact one a3 "LampError" (by decide +kernel) B3 rfl rfl (fun _ _ _ => True) k
        · cases hy
      · intro H5 acc hacc S5 da
        refine ⟨by show 1 ≤ sizeLine; decide, fun q1 h1 => ⟨by show 1 ≤ sizeLine; decide, fun q2 h2 => ⟨by show 0 ≤ sizeLine; decide, fun q3 h3 => ⟨by show 3 ≤ sizeLine; decide, fun q4 h4 => ?_⟩⟩⟩⟩
        have S6 := (((Same.new h1 (o := .lst [.str "Quarrel"])).trans (Same.new h2 (o := .lst [.str "BadPresses"]))).trans (Same.new h3 (o := .lst []))).trans (Same.new h4 (o := .lst [.ref q1, .ref q2, .ref q3]))
        refine ⟨.list [.list [.str "Quarrel"], .list [.str "BadPresses"], .list []], .list [.list [.str "Quarrel"], .list [.str "BadPresses"], .list []], .lst (SqL.of (S6 _ _ hacc)) (dpAll_same S6 da), .lst (SqL.of upd_same) (.cons ?_ (.cons ?_ (.cons ?_ .nil))), by decide +kernel, by decide +kernel, false, by decide +kernel, iteF ?_⟩
        · exact .lst (SqL.of (Same.new h4 _ _ (Same.new h3 _ _ (Same.new h2 _ _ upd_same)))) (.cons (.str _) .nil)
        · exact .lst (SqL.of (Same.new h4 _ _ (Same.new h3 _ _ upd_same))) (.cons (.str _) .nil)
        · exact .lst (SqL.of (Same.new h4 _ _ upd_same)) .nil
        have S46 := S5.trans S6
        refine ⟨_, rfl, c, rfl, ⟨_, SqL.of (S46 _ _ hc4)⟩, fun D2 hD2 => lc_dp [.str dv.shown, .str dv.shown, .str dv.shown] hD2 (S46 _ _ hc4) rfl (by show 3 ≤ 1000; decide) ?_ ?_⟩
        · intro i y d H7 Q' R' hy hd S7 hDn k
          have one : ∀ a x', x' ∈ allC → Bears H4 a (ga K x') v → y = .ref a → d = .str dv.shown → 
              (∃ (e C fI : Addr) (v' : V), y = .ref e ∧ ExT K C fI ∧ Bears H7 e C v' ∧ rRepr K [v'] H7 Q') := by
            intro a x' hx' B' ey ed
            have S47 := S46.trans S7
            exact ⟨a, _, fI, v, ey, T.extA hx', B'.same S47, v, dv, rfl, dq.same (S14.trans S47), sh, dp, sz, k _ _ (Same.refl _) (by rw [ed]; exact .str _)⟩
          refine ⟨rfl, yes_if ⟨_, rfl, ?_⟩⟩
          rcases i with _ | _ | _ | i
          · cases hy; cases hd
            exact one a1 "Quarrel" (by decide +kernel) B1 rfl rfl
          · cases hy; cases hd
            exact one a2 "BadPresses" (by decide +kernel) B2 rfl rfl
          · cases hy; cases hd
            exact one a3 "LampError" (by decide +kernel) B3 rfl rfl
          · cases hy
        · intro H7 acc7 hacc7 S7 da7
          have S17 : Same H1 H7 := (S14.trans S46).trans S7
          refine ⟨_, rfl, v, dv, rfl, dq.same S17, sh, dp, sz, by show 1 ≤ sizeLine; decide, fun q5 h5 => ⟨q5, 3, _, rfl, rfl, upd_same, by decide, by decide, by show 1 * 3 ≤ sizeLine; decide, fun q6 h6 => ?_⟩⟩
          have S8 := (Same.new h5 (o := .lst [.str dv.shown])).trans (Same.new h6 (o := .lst [.str dv.shown, .str dv.shown, .str dv.shown]))
          have e7 : acc7 = [.str dv.shown, .str dv.shown, .str dv.shown] := by
            cases da7 with
            | cons a b => cases a; cases b with
              | cons a b => cases a; cases b with
                | cons a b => cases a; cases b; rfl
          refine ⟨1, by decide, .inl ⟨D2, q6, _, _, rfl, rfl, SqL.of (S8 _ _ hacc7), SqL.of upd_same, ?_⟩, q _ (g0.trans (But.of (S17.trans S8))) (pot1.same (S17.trans S8))⟩
          rw [e7]
          exact .cons (.inl ⟨rfl, rfl⟩) (.cons (.inl ⟨rfl, rfl⟩) (.cons (.inl ⟨rfl, rfl⟩) .nil))
end
end K00
set_option Elab.async false
set_option linter.all false
set_option maxRecDepth 100000
set_option maxHeartbeats 8000000
namespace K00
open PySem PySem.Spec PyProof.Rows L2 BL
open He (ga)
section
variable {P : Program} {w : World} {K : PySem.W.Frag} {mg : Str → Option Value} {base : Heap} {f fI : Addr} {fd : FuncData}
def spLaw (K : PySem.W.Frag) : Sp := fun vs H Q _ => ∃ (s : Addr) (ns : List Int), vs = [.ref s] ∧ SqL K H s (ns.map V.int) ∧ ns.length ≤ 63 ∧ (∀ z ∈ ns, Builtin.Int.intBits z ≤ 1048576) ∧ ∀ H', Q (.bl true) H'
theorem sqL_same {H H' : Hp} {a : Addr} {xs : List V} (h : SqL K H a xs) (e : Same H H') : SqL K H' a xs :=
  h.elim (fun h => .inl (h.elim (fun h => .inl (e _ _ h)) fun ⟨o, h⟩ => .inr ⟨o, e _ _ h⟩)) fun h => .inr h
theorem same_but {H0 H H' : Hp} {p : Addr} (S : Same H0 H) (h0 : H0 p = none) (k : But p H H') : Same H0 H' := fun b o e => k b o (ne_of_none e h0) (S b o e)
abbrev Nlaw : List Str := ["_law_script", "_law_place", "_law_pot_here", "_law_lap"]
theorem sclaw : FnScope ["_law_script", "_law_place", "_law_pot_here", "_law_lap"] ["_law_script"] (defScope slaw) := ⟨rfl, rfl, rfl, by decide +kernel, rfl, by decide +kernel, by decide +kernel⟩
theorem ok_law (F : FnP K "law" slaw f fd) (gall : mg "all" = none) (grange : mg "range" = none)
    (D_law_cells : DefOk P w K mg base "_law_cells" 1 ["_law_script", "_law_limit"] (spCells K)) (D_law_pot : DefOk P w K mg base "_law_pot" 1 ["_law_script", "_law_place"] (spPot K)) (D_law_right : DefOk P w K mg base "_law_right" 4 ["_law_pot_here"] spRight) :
    FnG P w K mg base CX0 5 f fd ["_law_script"] (spLaw K) := by
  refine fnG_of F sclaw (fun v H Q E h => ?_) (fun cd A o s H vs Q E hr hg h => ?_)
  · obtain ⟨s, ns, rfl, _⟩ := h; rfl
  · obtain ⟨s, ns, rfl, hs, hl, hb, q⟩ := h
    have hr_law_cells := hr.mono (j := 1) (by decide)
    have hr_law_pot := hr.mono (j := 1) (by decide)
    have hr_law_right := hr
    refine ⟨_, (pss_cons (ps_for (passes_of rfl) rfl (pi_list (pe_d D_law_cells hr_law_cells hg rfl (pa_cons (pv 0) (pa_cons pe_int pa_nil)))) (pg_name (i := 1) sclaw.nd rfl (Or.inl rfl)) (pss_cons (ps_set (i := 2) sclaw.nd rfl (Or.inr rfl) (pe_d D_law_pot hr_law_pot hg rfl (pa_cons (pv 0) (pa_cons (pv 1) pa_nil)))) (pss_one (ps_if (pt_not (pt_val (pe_callB (cr_all rfl) (by rfl) gall (by decide +kernel) (pa_cons (pe_lc (own := [("_law_lap", 3)]) (g := gName 3) rfl sclaw.nd (pi_range1 rfl grange (pa_cons pe_int pa_nil)) (blkOk_by (own := [("_law_lap", 3)]) (N := Nlaw) (sc := defScope slaw) (by decide +kernel)) (fun _ _ _ _ _ => (pg_name (i := 3) sclaw.nd rfl (Or.inl rfl))) (fun _ _ _ _ _ => pts_nil) (fun _ _ _ _ _ => by exact (pe_d D_law_right hr_law_right hg rfl (pa_cons (pv 2) pa_nil)))) pa_nil)))) (pss_one (ps_ret pe_bl)) pss_nil)))) (pss_one (ps_ret pe_bl))), ?_⟩
    refine ⟨_, rfl, s, ns, 4, rfl, hs, hl, by decide, by decide, fun c m hc hm => ?_⟩
    obtain ⟨H1, e1⟩ : ∃ H1, H1 = upd H c (.lst ((List.range m).map fun i => V.int (i : Nat))) := ⟨_, rfl⟩
    have S1 : Same H H1 := by rw [e1]; exact Same.new hc
    have hc1 : H1 c = some (.lst ((List.range m).map fun i => V.int (i : Nat))) := by rw [e1]; exact upd_same
    rw [← e1]
    refine ⟨c, rfl, ⟨_, SqL.of hc1⟩, for_list (K := K) (a := c) (xs := (List.range m).map fun i => V.int (i : Nat)) (fun i σ H' => ∃ o1 o2, σ = [some (.ref s), o1, o2, none] ∧ Same H1 H')
      ⟨none, none, rfl, Same.refl _⟩ (fun i σ H' _ ⟨_, _, _, S⟩ => SqL.of (S _ _ hc1)) ?_ ?_⟩
    · rintro i it σ H3 hi ⟨o1, o2, rfl, S3⟩
      have him : i < m := by
        have := (List.getElem?_eq_some_iff.mp hi).1
        simpa using this
      obtain rfl : it = V.int (i : Nat) := by
        rw [List.getElem?_map, List.getElem?_range him] at hi
        exact (Option.some.inj hi).symm
      have hs3 : SqL K H3 s (ns.map V.int) := sqL_same (sqL_same hs S1) S3
      refine ⟨_, rfl, _, rfl, s, ns, i, rfl, hs3, hl, by omega, hb, fun H4 p hp S4 pot => ?_⟩
      refine ⟨3, rfl, by decide, by decide, fun D hD => lc_range (n := 3) (fun j H' => H' D = some (.lst (List.replicate j (.bl true))) ∧ But p H4 H' ∧ Pot H' p j) ⟨upd_same, But.of (Same.new hD), pot.same (Same.new hD)⟩ ?_ ?_⟩
      · rintro j H5 hj ⟨h1, h2, h3⟩
        have hDp : D ≠ p := by
          obtain ⟨_, _, _, e, _⟩ := pot
          exact Ne.symm (ne_of_none e hD)
        refine ⟨rfl, yes_if ⟨_, rfl, p, j, rfl, h3, by omega, fun H6 b6 pot6 => ⟨_, b6 _ _ hDp h1, by rw [List.length_replicate, sizeLine_eq]; omega, ?_, ?_, ?_⟩⟩⟩
        · rw [upd_same, List.replicate_succ']
        · intro b o' nb e
          rw [upd_ne (ne_of_none e hD)]
          exact b6 b o' nb (h2 b o' nb e)
        · obtain ⟨x1, x2, x3, e, r⟩ := pot6
          exact ⟨x1, x2, x3, by rw [upd_ne (Ne.symm hDp)]; exact e, r⟩
      · rintro H5 ⟨h1, h2, h3⟩
        refine ⟨D, [true, true, true], rfl, SqL.of h1, true, rfl, iteF ?_⟩
        exact ⟨_, _, rfl, fun b o' e => h2 b o' (ne_of_none (S3 b o' e) hp) ((S3.trans S4) b o' e)⟩
    · rintro σ H3 ⟨o1, o2, rfl, S3⟩
      exact q _
end
end K00
set_option Elab.async false
set_option linter.all false
set_option maxRecDepth 100000
set_option maxHeartbeats 8000000
namespace K00
open PySem PySem.Spec PyProof.Rows L2 BL
open He (ga ma)
theorem glo_mem : ∀ x ∈ allC, He.Fa.glo x ∈ fa := by
  intro x hx
  have e : fa = (faF ++ [.glo "_law_pot", .glo "_law_take", .glo "_law_of", .glo "_law_cells", .glo "_law_odd", .glo "_law_made", .glo "_law_more_made", .glo "_law_words", .glo "_law_more_words", .glo "_law_thrown", .glo "_law_right", .glo "law"]) ++ allC.map He.Fa.glo := rfl
  rw [e]
  exact List.mem_append_right _ (List.mem_map_of_mem hx)
theorem facts {P : Program} {w : World} {K : PySem.W.Frag} {h : Heap} {mg : Str → Option Value} {f : Addr} (X : K.In h) (G : h.Ns mainGlobals mg) (hfa : mg ("law" : Str) = some (.ref f)) (c : He.SaysD fa fn K) (cx : ex K = true) :
    ∃ fd : FuncData, (∀ (s : Shared) (v : Value), BindsTo s fd ⟨[v], []⟩ [("_law_script", v)]) ∧ ∀ base : Heap, K.In base → base.Ns mainGlobals mg → FnG P w K mg base CX0 5 f fd ["_law_script"] (spLaw K) := by
  obtain ⟨_, F0⟩ := c.def_ 0 (d := d_law_pot) rfl
  obtain ⟨_, F1⟩ := c.def_ 1 (d := d_law_take) rfl
  obtain ⟨_, F2⟩ := c.def_ 2 (d := d_law_of) rfl
  obtain ⟨_, F3⟩ := c.def_ 3 (d := d_law_cells) rfl
  obtain ⟨_, F4⟩ := c.def_ 4 (d := d_law_odd) rfl
  obtain ⟨_, F5⟩ := c.def_ 5 (d := d_law_made) rfl
  obtain ⟨_, F6⟩ := c.def_ 6 (d := d_law_more_made) rfl
  obtain ⟨_, F7⟩ := c.def_ 7 (d := d_law_words) rfl
  obtain ⟨_, F8⟩ := c.def_ 8 (d := d_law_more_words) rfl
  obtain ⟨_, F9⟩ := c.def_ 9 (d := d_law_thrown) rfl
  obtain ⟨_, F10⟩ := c.def_ 10 (d := d_law_right) rfl
  obtain ⟨fd, F11⟩ := c.def_ 11 (d := dlaw) rfl
  obtain ⟨_, FI⟩ := c.def_ 12 (d := dInit) rfl
  have e := hfa.symm.trans (He.glo_ok X G (c.fact 22 (f := .glo "law") rfl))
  cases e
  have T : Excs K "LampError" cls (ma K (ga K "LampError") "__init__") := excs_of cx (init_of FI rfl rfl rfl)
  have gC : ∀ x ∈ allC, mg x = some (.ref (ga K x)) := fun x m => by
    obtain ⟨i, hi, e⟩ := List.mem_iff_getElem.mp (glo_mem x m)
    exact He.glo_ok X G (c.fact i (f := .glo x) (by rw [List.getElem?_eq_getElem hi, e]))
  have glen := He.free_ok X G (c.fact 0 (f := .free "len") rfl)
  have gint := He.free_ok X G (c.fact 1 (f := .free "int") rfl)
  have gabs := He.free_ok X G (c.fact 2 (f := .free "abs") rfl)
  have glist := He.free_ok X G (c.fact 3 (f := .free "list") rfl)
  have grange := He.free_ok X G (c.fact 4 (f := .free "range") rfl)
  have gmax := He.free_ok X G (c.fact 5 (f := .free "max") rfl)
  have gmin := He.free_ok X G (c.fact 6 (f := .free "min") rfl)
  have gisinstance := He.free_ok X G (c.fact 7 (f := .free "isinstance") rfl)
  have grepr := He.free_ok X G (c.fact 8 (f := .free "repr") rfl)
  have gall := He.free_ok X G (c.fact 9 (f := .free "all") rfl)
  have gValueError := He.free_ok X G (c.fact 10 (f := .free "ValueError") rfl)
  have b := FunD.bindsA (ps := ["_law_script"]) F11 fun _ _ _ _ _ _ us hl => match us, hl with | [_], _ => rfl
  refine ⟨fd, fun s v => b s [v] rfl, fun base _ _ => ?_⟩
  have D0 : DefOk P w K mg base "_law_pot" 1 ["_law_script", "_law_place"] (spPot K) := ok_law_pot F0 (He.glo_ok X G (c.fact 11 (f := .glo "_law_pot") rfl)) glen gabs gint
  have D1 : DefOk P w K mg base "_law_take" 1 ["_law_pot_here", "_law_upto"] spTake := ok_law_take F1 (He.glo_ok X G (c.fact 12 (f := .glo "_law_take") rfl)) gint
  have D2 : DefOk P w K mg base "_law_of" 2 ["_law_pot_here", "_law_some"] (spOf K) := ok_law_of F2 (He.glo_ok X G (c.fact 13 (f := .glo "_law_of") rfl)) glen D1
  have D3 : DefOk P w K mg base "_law_cells" 1 ["_law_script", "_law_limit"] (spCells K) := ok_law_cells F3 (He.glo_ok X G (c.fact 14 (f := .glo "_law_cells") rfl)) glen gmax gmin grange glist
  have D4 : DefOk P w K mg base "_law_odd" 3 ["_law_pot_here"] (spOdd K) := ok_law_odd F4 (He.glo_ok X G (c.fact 15 (f := .glo "_law_odd") rfl)) D2
  have D6 : DefOk P w K mg base "_law_more_made" 1 ["_law_value"] (spMade K ws2) := ok_law_more_made T gC F6 (He.glo_ok X G (c.fact 17 (f := .glo "_law_more_made") rfl))
  have D5 : DefOk P w K mg base "_law_made" 2 ["_law_value"] (spMade K ("LampError" :: (ws1 ++ ws2))) := ok_law_made T gC F5 (He.glo_ok X G (c.fact 16 (f := .glo "_law_made") rfl)) D6
  have D8 : DefOk P w K mg base "_law_more_words" 1 ["_law_error"] (spWords K ws2) := ok_law_more_words T gC gisinstance F8 (He.glo_ok X G (c.fact 19 (f := .glo "_law_more_words") rfl))
  have D7 : DefOk P w K mg base "_law_words" 2 ["_law_error"] (spWords K (ws1 ++ ws2)) := ok_law_words T gC gisinstance F7 (He.glo_ok X G (c.fact 18 (f := .glo "_law_words") rfl)) D8
  have D9 : DefOk P w K mg base "_law_thrown" 1 ["_law_value"] (spThrown K) := ok_law_thrown T gC F9 (He.glo_ok X G (c.fact 20 (f := .glo "_law_thrown") rfl))
  have D10 : DefOk P w K mg base "_law_right" 4 ["_law_pot_here"] spRight := ok_law_right T gC gisinstance grepr gValueError F10 (He.glo_ok X G (c.fact 21 (f := .glo "_law_right") rfl)) D4 D5 D7 D9
  exact ok_law F11 gall grange D3 D0 D10
end K00
set_option Elab.async false
set_option linter.all false
set_option maxRecDepth 100000
set_option maxHeartbeats 0
open PySem PySem.W PySem.Calls PyProof.Rows
theorem PySem.Challenge.cw_beatlamps_k00_errors_keep_what_they_are_holds : PySem.Challenge.rw_beatlamps_k00_errors_keep_what_they_are.Holds := by
  w_on; o_law
  refine HandSHeadRun.head_any (r := OpenLaw.row PySem.Challenge.rw_beatlamps_k00_errors_keep_what_they_are) (q := view (OpenLaw.row PySem.Challenge.rw_beatlamps_k00_errors_keep_what_they_are).prog [55]) (H := K00.hk) (ob := BL.obB 4 K00.fa K00.fn K00.ex) (M := 20000) (loose := K00.loose) (d := HandSHeadRun.topDef (OpenLaw.row PySem.Challenge.rw_beatlamps_k00_errors_keep_what_they_are).prog 55) (kwd := []) BL.obB_eq
    (by kernel_rfl) (fun s => by kernel_rfl) K00.run (by kernel_rfl) (by kernel_rfl) (by kernel_rfl) (by rfl) (by first | assumption | decide +kernel) (by decide +kernel) ⟨rfl, rfl, rfl, rfl, rfl, by decide +kernel⟩ ?hw ?hc
  case hw => w_witness2
  case hc =>
    refine BL.walkG (l := PySem.Challenge.rw_beatlamps_k00_errors_keep_what_they_are) (n := 63) (k := 5) (x := "_law_script") (C := fun _ => L2.CX0) rfl (by decide) (by kernel_rfl) ⟨rfl, by decide, by decide⟩ ?F (fun _ _ _ _ _ z => z)
    intro w mg fa h Y G hmg0
    obtain ⟨K, KX, c, cx⟩ := Y
    have hmg : mg ("law" : PySem.Str) = some (.ref fa) := by
      have e : (HandSHeadRun.topDef (OpenLaw.row PySem.Challenge.rw_beatlamps_k00_errors_keep_what_they_are).prog 55).name = ("law" : PySem.Str) := by kernel_rfl
      rw [← e]
      exact hmg0
    obtain ⟨fd, hb, hF⟩ := K00.facts (P := (PySem.Challenge.rw_beatlamps_k00_errors_keep_what_they_are).prog) (w := w) KX G hmg c cx
    exact ⟨K, fd, K00.spLaw K, KX, hb, fun H a ns hl hbits _ hS => ⟨a, ns, rfl, hS, hl, hbits, fun _ => rfl⟩, hF⟩
