import PyProof.Rows.All
import Wide.All
import OpenK.AllK
import Wide.FinOn
import KE.KStateDown
import HandS.Base
import HandS.Call
import HandS.Exc
import HandS.Ends
import HandS.More
import HandS.Words
import HandS.WordsExc
import HandS.Defaults
import HandS.Head0
import HandS.Head1
import HandS.Head2
import HandS.HeadEnd
import HandS.HeadHook1
import HandS.HeadHook2
import HandS.HeadNt
import HandS.List
import HandS.Comp
import HandS.Iter
import HandS.Conv
import HandS.Text
import HandS.FStr
import HandS.Star
import HandS.MethStar
import HandS.Property
import HandS.ClsMeth
import HandS.OwnEq
import HandS.WideBits
import HandS.IsInst
import HandS.Flow
import HandS.WordsList
import KE.KOpsOwn
import KE.DataIsa
import OpenK.KMeth
import OpenK.KOps
import HandS.Deep
import HandS.TupAny
import HandS.SlotsOwn
import KE.GoesEnum
import KE.GoesEnumKw
import HandS.EndBits
import HandS.NoneIn
import HandS.Walk
import PySem.Challenge.RW_onceseen_k12_whole_histories_that_grow
set_option Elab.async false
set_option linter.all false
set_option maxRecDepth 100000
/-! the head's facts: any Bool of the written part, each def by its place -/
namespace Lw
open PySem PySem.Spec PyProof.Rows L2 He
abbrev Frag := PySem.W.Frag
abbrev DefA := He5.DefA
def obsB (fs : List (Frag → Bool)) (fn : List DefA) (K : Frag) : He.AlD := ((fs.all fun f => f K) && fn.all fun d => d.ok K, fn.map fun d => He5.fnA K (d.at_ K))
def valB (fn : List DefA) : He.AlD := (true, fn.map He5.DefA.val)
def SaysB (fs : List (Frag → Bool)) (fn : List DefA) (K : Frag) : Prop := obsB fs fn K = valB fn
def obsBG (n : Nat) (fs : List (Frag → Bool)) (fn : List DefA) (g : Addr → Option Obj) : He.AlD := obsB fs fn (frG g (He5.asA g n))
def hookB (n : Nat) (fs : List (Frag → Bool)) (fn : List DefA) : PySem.W.Hook where
  α := He.AlD
  obs := fun s => obsBG n fs fn s.heap.get?
  val := fun _ => valB fn
  says := fun _ h => ∃ K : Frag, K.In h ∧ SaysB fs fn K
  of := fun _ _ e => ⟨_, frG_in, e⟩
  keeps := fun _ _ _ ⟨K, hK, c⟩ k => ⟨K, PySem.W.Frag.In.keeps hK k, c⟩
theorem obsBG_eq {n : Nat} {fs : List (Frag → Bool)} {fn : List DefA} {g : Addr → Option Obj} {s : Shared} (h : ∀ a, g a = s.heap.get? a) : obsBG n fs fn g = (hookB n fs fn).obs s := by
  have e : g = s.heap.get? := funext h
  rw [e] <;> rfl
section
variable {fs : List (Frag → Bool)} {fn : List DefA} {K : Frag}
theorem SaysB.fact (c : SaysB fs fn K) {f : Frag → Bool} (h : f ∈ fs) : f K = true := by
  have c1 := (ba (show ((fs.all fun f => f K) && fn.all fun d => d.ok K) = true from congrArg (fun z : He.AlD => z.1) c)).1
  exact List.all_eq_true.mp c1 f h
theorem SaysB.def_ (c : SaysB fs fn K) (i : Nat) {d : DefA} (h : fn[i]? = some d) : ∃ fd, L2.FunD K d.name d.qual d.params d.body d.scope (d.dvs K) (d.kws K) (d.at_ K) fd := by
  have c2 := (ba (show ((fs.all fun f => f K) && fn.all fun d => d.ok K) = true from congrArg (fun z : He.AlD => z.1) c)).2
  have e : fn.map (fun d => He5.fnA K (d.at_ K)) = fn.map He5.DefA.val := congrArg (fun z : He.AlD => z.2) c
  have e2 : (fn.map fun d => He5.fnA K (d.at_ K))[i]? = (fn.map He5.DefA.val)[i]? := by rw [e]
  rw [List.getElem?_map, List.getElem?_map, h] at e2
  exact He5.DefA.funD (Option.some.inj e2) (List.all_eq_true.mp c2 d (List.mem_of_getElem? h))
end
/-! facts as Bools -/
def bGlo (x : Str) (K : Frag) : Bool := eqO (PySem.W.nsIn K mainGlobals x) (some (some (.ref (ga K x))))
def bFree (x : Str) (K : Frag) : Bool := eqO (PySem.W.nsIn K mainGlobals x) (some none)
def bCls (x : Str) (K : Frag) : Bool := (Fa.cls x).ok K
def bNoat (x f : Str) (K : Frag) : Bool := eqO (PySem.W.findIn K (.ref (ga K x)) f) (some none)
def bMeth (x m : Str) (K : Frag) : Bool := (Fa.meth x m).ok K
def bMkr (x : Str) (K : Frag) : Bool := (Fa.mkr x).ok K
/-- a property: its record p, its getter g -/
def pg (K : Frag) (C m : Str) : Addr := He5.wf K (ga K C) "property" m
def bProp (C m : Str) (K : Frag) : Bool := eqO (PySem.W.findIn K (.ref (ga K C)) m) (some (some (.ref (ma K (ga K C) m)))) &&
  (eqO (PySem.W.specialIn K (.ref (ma K (ga K C) m)) "__get__") (some (some (.builtin "property.__get__"))) &&
  (decide (PySem.W.takesIn K (.ref (ma K (ga K C) m)) = some true) && (match PySem.W.recIn K (ma K (ga K C) m) "property" with
    | some (.ref _ :: _) => true
    | _ => false)))
end Lw

set_option Elab.async false
set_option linter.all false
set_option maxRecDepth 100000
set_option maxHeartbeats 4000000
/-! promises where no repr is under way; calls by values -/
namespace Lw
open PySem PySem.Spec PyProof.Rows L2 StX
structure RoomG (k : Nat) (A : Around) : Prop where
  room : Room k A
  gd : A.guards = some []
theorem RoomG.mono {j k : Nat} {A : Around} (r : RoomG k A) (h : j ≤ k) : RoomG j A := ⟨r.room.mono h, r.gd⟩
theorem RoomG.deeper {k : Nat} {A : Around} (r : RoomG (k + 1) A) (env : Env) : RoomG k (A.deeper env) := ⟨r.room.deeper env, r.gd⟩
theorem RoomG.in1 {k : Nat} {A : Around} (r : RoomG (k + 1) A) : RoomG k A.in1 := ⟨r.room.in1, r.gd⟩
theorem RoomG.make {k : Nat} {A : Around} (r : RoomG (k + 1) A) (C : Addr) (us : List Value) (kw : List (Str × Value)) : RoomG k (A.under (.builtin "type.__call__" ⟨.ref C :: us, kw⟩)) := by
  refine ⟨r.room.make C us kw, ?_⟩
  have e : Code.guards (.builtin "type.__call__" ⟨.ref C :: us, kw⟩) = [] := by
    first | rfl | simp [Code.guards, Code.isGuard, guardIds]
  show pushGuards (Code.guards (.builtin "type.__call__" ⟨.ref C :: us, kw⟩)) A.guards = some []
  rw [e]
  exact r.gd
theorem RoomG.units {k : Nat} {A : Around} (r : RoomG k A) : A.units + 64 < cLine := r.room.units
theorem RoomG.units0 {k : Nat} {A : Around} (r : RoomG k A) : A.units < cLine := r.room.units0
/-- a promise by positional values, no repr being under way -/
def FnG (P : Program) (w : World) (K : PySem.W.Frag) (mg : Str → Option Value) (base : Heap) (CX : CXT) (k : Nat) (f : Addr) (sp : Sp) : Prop :=
  ∀ (A : Around) (outer : List Env) (s : Shared) (H : Hp) (us : List Value) (vs : List V) (Q : VK) (E : XK), RoomG k A → Env0 P w K mg base A outer s H → Vals vs us → sp vs H Q E →
    codeAny (model P w) A (.call (.ref f) ⟨us, []⟩) (CR CX outer P w H s Q E) s
section
variable {P : Program} {w : World} {K : PySem.W.Frag} {mg : Str → Option Value} {base : Heap} {CX : CXT} {j k : Nat} {f : Addr} {sp sp' : Sp}
theorem FnG.mono (F : FnG P w K mg base CX j f sp) (h : j ≤ k) : FnG P w K mg base CX k f sp := fun A outer s H us vs Q E hr => F A outer s H us vs Q E (hr.mono h)
theorem FnG.imp (F : FnG P w K mg base CX k f sp) (h : ∀ vs H Q E, sp' vs H Q E → sp vs H Q E) : FnG P w K mg base CX k f sp' := fun A outer s H us vs Q E hr e0 r hs => F A outer s H us vs Q E hr e0 r (h _ _ _ _ hs)
end
section
variable {X : Cx} {CX : CXT} {k : Nat} {f C : Addr} {sp : Sp} {E : XK} {pins : List (Addr × Obj)} {σ : L2.St} {H : Hp} {s : Shared}
/-- how a callee's end reaches the caller -/
theorem run_gA {A : Around} {Q : VK} {us : List Value} {vs : List V} (F : FnG X.prog X.w X.K X.mg X.base CX k f sp) (hr : RoomG k A) (e0 : Env0 X.prog X.w X.K X.mg X.base A X.stack s H) (hx : Passes CX X E) (I : Inv X pins σ H s) (r : Vals vs us) (h : sp vs H Q E) :
    codeAny (model X.prog X.w) A (.call (.ref f) ⟨us, []⟩) (fun r s' => match r with | .ok (.ret v) => EP X pins σ Q v s' | .ok _ => False | .error e => X.xe e s') s := by
  refine codeAny_mono (F A X.stack s H us vs Q E hr e0 r h) fun r s' hq => ?_
  match r, hq with
  | .error e, hq => exact hx pins σ H s e s' I hq
  | .ok (.ret u), hq => exact I.after hq
  | .ok .next, hq => exact False.elim hq
  | .ok .brk, hq => exact False.elim hq
  | .ok .cont, hq => exact False.elim hq
theorem run_g {Q : VK} {us : List Value} {vs : List V} (F : FnG X.prog X.w X.K X.mg X.base CX k f sp) (hr : RoomG k X.A) (hx : Passes CX X E) (I : Inv X pins σ H s) (r : Vals vs us) (h : sp vs H Q E) :
    wpAny (model X.prog X.w) X.A (call (.ref f) us) (EP X pins σ Q) X.xe s := wpAny_call (run_gA F hr I.env0 hx I r h)
theorem run_g1 {Q : VK} {us : List Value} {vs : List V} (F : FnG X.prog X.w X.K X.mg X.base CX k f sp) (hr : RoomG (k + 1) X.A) (hx : Passes CX X E) (I : Inv X pins σ H s) (r : Vals vs us) (h : sp vs H Q E) :
    wpAny (model X.prog X.w) X.A.in1 (call (.ref f) us) (EP X pins σ Q) X.xe s := wpAny_call (run_gA F hr.in1 I.env0.in1 hx I r h)
/-- a def, called by values -/
theorem call_g (F : FnG X.prog X.w X.K X.mg X.base CX k f sp) (hr : RoomG k X.A) (hx : Passes CX X E) : CallR X (.ref f) fun vs H Q => sp vs H Q E :=
  fun pins s σ H xs us Q I r h => run_g F hr hx I r h
/-- a class, called by values: a new instance, its __init__ -/
def rMk (C : Addr) (sp : Sp) (E : XK) : List V → Hp → VK → Prop := fun vs H Q => ∀ x dx, H x = Option.none → H dx = Option.none → dx ≠ x →
  sp (V.ref x :: vs) (upd (upd H dx (.own x)) x (.ins C dx [])) (fun v H2 => v = .non ∧ Q (.ref x) H2) E
theorem call_mk (M : Mk X.K C f) (F : FnG X.prog X.w X.K X.mg X.base CX k f sp) (hr : RoomG (k + 1) X.A) (hx : Passes CX X E) : CallR X (.ref C) (rMk C sp E) := by
  intro pins s σ H xs us Q I r h
  have hq := h (s.heap.objs.size + 1) s.heap.objs.size (I.hok.fresh (Nat.le_succ _)) (I.hok.fresh (Nat.le_refl _)) (Nat.ne_of_lt (Nat.lt_succ_self _))
  have I2 := Inv.made (C := C) I
  have r2 : Vals (V.ref (s.heap.objs.size + 1) :: xs) (Value.ref (s.heap.objs.size + 1) :: us) := .cons rfl r
  refine wpAny_call (make_map (f := f) I.kIn M.makes M.init (beq_iff_eq.mp M.fn) (codeAny_mono (F _ X.stack _ _ (Value.ref (s.heap.objs.size + 1) :: us) _ _ E (hr.make C us []) (I2.env0.make C us []) r2 hq) fun r s' hq' => ?_))
  match r, hq' with
  | .error e, hq' => exact hx pins σ _ _ e s' I2 hq'
  | .ok (.ret u), hq' =>
    obtain ⟨v, H', I3, rv, ev, q3⟩ := I2.after hq'
    subst ev
    exact ⟨rv, ⟨V.ref (s.heap.objs.size + 1), H', I3, rfl, q3⟩⟩
  | .ok .next, hq' => exact False.elim hq'
  | .ok .brk, hq' => exact False.elim hq'
  | .ok .cont, hq' => exact False.elim hq'
end
/-! the forms of a call of a name of the module -/
section
variable {X : Cx} {u : Value} {x m : Str} {r : List V → Hp → VK → Prop} {e e2 o : Expr} {es : List Expr} {te ta : TE} {t : TA} {p sp_ pos apos : Pos} {C f : Addr}
theorem pe_c0 (hc : CallR X u r) (hk : PySem.W.keepIn X.K u = true) (hg : Gl X x) (hm : X.mg x = some u) (hd : (x == ("__debug__" : Str)) = false := by decide) : PE X (.Call (.Name x p) [] [] pos) (tCB r tNil) :=
  ⟨fun pins s σ H Q I h => wpAny_Call_Name_kw (ld_glob I hg hm (PySem.W.callWith_K0 I.kIn hk (hc pins s σ H [] [] Q I .nil h)) hd)⟩
theorem pe_c (hc : CallR X u r) (hk : PySem.W.keepIn X.K u = true) (hg : Gl X x) (hm : X.mg x = some u) (ha : PA X (e :: es) t) (hd : (x == ("__debug__" : Str)) = false := by decide)
    (he : starEach (e :: es) X.env = (false, eval e X.env) :: starEach es X.env := by rfl) (hpl : (backTo pos (starEach es X.env)).any (·.1) = false := by rfl) : PE X (.Call (.Name x p) (e :: es) [] pos) (tCB r t) :=
  ⟨fun pins s σ H Q I h => wpAny_Call_Name_kw (ld_glob I hg hm (PySem.W.callWith_K (h₀ := X.base) I.ok.mod.kin hk (thn (ha.run pos pins s σ H _ I h) fun us s1 ⟨vs, H1, I1, rv, q⟩ => ⟨I1.kIn, hc pins s1 σ H1 vs us Q I1 rv q⟩) he hpl) hd)⟩
/-- x( *e) -/
theorem pe_cS (hc : CallR X u r) (hk : PySem.W.keepIn X.K u = true) (hg : Gl X x) (hm : X.mg x = some u) (he : PE X e te) (hd : (x == ("__debug__" : Str)) = false := by decide)
    (hst : starEach [.Starred e sp_] X.env = [(true, eval e X.env)] := by rfl) : PE X (.Call (.Name x p) [.Starred e sp_] [] pos) (tCB r (tStar X.K te tNil)) := by
  refine ⟨fun pins s σ H Q I h => wpAny_Call_Name_kw (ld_glob I hg hm ?_ hd)⟩
  refine PySem.W.callWith_S (h₀ := X.base) I.ok.mod.kin hk (thn (he.run pins s σ H _ I h) fun v s1 ⟨y, H1, I1, ry, a, xs, ey, hxs, q⟩ => ?_) hst
  subst ey
  obtain rfl : v = Value.ref a := ry
  refine star_any I1 hxs fun us s2 I2 rv => ⟨I2.kIn, ?_⟩
  have q' : r (xs ++ []) H1 Q := q
  rw [List.append_nil] at q'
  exact hc pins s2 σ H1 xs us Q I2 rv q'
theorem evalArgs_star2 {M : Model} {A : Around} {Ex : Value → Shared → Prop} {s : Shared} {g : Value} {y : Sem Value} {b : Bool × Sem Value} {rest : List (Bool × Sem Value)} {Q : Args → Shared → Prop}
    (h : wpAny M A (spliced ((true, y) :: b :: rest)) (fun vs s' => Q ⟨vs, []⟩ s') Ex s) : wpAny M A (evalArgs g true ((true, y) :: b :: rest) []) Q Ex s := by
  unfold evalArgs
  show wpAny M A (spliced ((true, y) :: b :: rest) >>= _) Q Ex s
  refine wpAny_bind (wpAny_mono h (fun vs s' h' => ?_) fun _ _ x => x)
  refine wpAny_holding ?_
  exact wpAny_bind (wpAny_pure (wpAny_bind (wpAny_pure (wpAny_pure h'))))
/-- x( *e, e2, ..) -/
theorem pe_cS2 (hc : CallR X u r) (hk : PySem.W.keepIn X.K u = true) (hg : Gl X x) (hm : X.mg x = some u) (ha : PA X (.Starred e sp_ :: e2 :: es) t) (hd : (x == ("__debug__" : Str)) = false := by decide)
    (hst : ∃ y b rest, backTo pos (starEach (.Starred e sp_ :: e2 :: es) X.env) = (true, y) :: b :: rest := by exact ⟨_, _, _, rfl⟩) : PE X (.Call (.Name x p) (.Starred e sp_ :: e2 :: es) [] pos) (tCB r t) := by
  refine ⟨fun pins s σ H Q I h => wpAny_Call_Name_kw (ld_glob I hg hm ?_ hd)⟩
  have z := ha.run pos pins s σ H _ I h
  obtain ⟨y, b, rest, hb⟩ := hst
  rw [hb] at z
  show wpAny _ _ (callWith pos u [] (backTo pos (starEach (.Starred e sp_ :: e2 :: es) X.env)) []) _ _ _
  rw [hb]
  exact PySem.W.ks_call rfl (PySem.W.keeps_K hk) (evalArgs_star2 (thn z fun us s1 ⟨vs, H1, I1, rv, q⟩ => ⟨I1.kIn, hc pins s1 σ H1 vs us Q I1 rv q⟩))
/-- o.m(..), m a plain def of the class of o -/
def tMC (C : Addr) (m : Str) (r : List V → Hp → VK → Prop) (ta : TE) (t : TA) : TE := fun σ H Q => ta σ H fun x H1 => ∃ a dx fs, x = .ref a ∧ H1 a = some (.ins C dx fs) ∧ fs.lookup m = none ∧ t σ H1 fun vs H2 => r (x :: vs) H2 Q
theorem pe_m {pl : Sem Bool} (hc : CallR X (.ref f) r) (he : PE X o ta) (c : Cls X.K C) (hm : Meth X.K C m f) (ha : PA X (e :: es) t)
    (hst : starEach (e :: es) X.env = (false, eval e X.env) :: starEach es X.env := by rfl) (hpl : (backTo pos (starEach es X.env)).any (·.1) = false := by rfl)
    (ht : eval (.Call (.Attribute o m apos) (e :: es) [] pos) X.env = (do
      let ov ← eval o X.env
      standAt apos.atName
      let (f, first) ← holding [ov] (getMethod ov m pl)
      callWith pos f first (backTo pos (starEach (e :: es) X.env)) (backToKw pos (keywordEach [] X.env))) := by rfl) :
    PE X (.Call (.Attribute o m apos) (e :: es) [] pos) (tMC C m r ta t) := by
  refine ⟨fun pins s σ H Q I h => ?_⟩
  refine PySem.W.methodCall_KW (pl := pl) (thn (he.run pins s σ H _ I h) fun u s1 ⟨x, H1, I1, rx, a, dx, fs, ex, ea, l, q⟩ => ?_) ht
  subst ex
  obtain rfl : u = Value.ref a := rx
  refine getmeth_ok I1 ea c hm l (PySem.W.callWith_K (first := [.ref a]) (h₀ := X.base) I.ok.mod.kin hm.kp (thn (ha.run pos pins s1 σ H1 _ I1 q) fun us s2 ⟨vs, H2, I2, rv, q2⟩ => ⟨I2.kIn, ?_⟩) hst hpl)
  exact hc pins s2 σ H2 (.ref a :: vs) (.ref a :: us) Q I2 (.cons rfl rv) q2
theorem pe_m0 {pl : Sem Bool} (hc : CallR X (.ref f) r) (he : PE X o ta) (c : Cls X.K C) (hm : Meth X.K C m f)
    (ht : eval (.Call (.Attribute o m apos) [] [] pos) X.env = (do
      let ov ← eval o X.env
      standAt apos.atName
      let (f, first) ← holding [ov] (getMethod ov m pl)
      callWith pos f first (backTo pos (starEach [] X.env)) (backToKw pos (keywordEach [] X.env))) := by rfl) :
    PE X (.Call (.Attribute o m apos) [] [] pos) (tMC C m r ta tNil) := by
  refine ⟨fun pins s σ H Q I h => ?_⟩
  refine PySem.W.methodCall_KW (pl := pl) (thn (he.run pins s σ H _ I h) fun u s1 ⟨x, H1, I1, rx, a, dx, fs, ex, ea, l, q⟩ => ?_) ht
  subst ex
  obtain rfl : u = Value.ref a := rx
  exact getmeth_ok I1 ea c hm l (PySem.W.callWith_K0 (first := [.ref a]) I1.kIn hm.kp (hc pins s1 σ H1 [.ref a] [.ref a] Q I1 (.cons rfl .nil) q))
/-- e.f, a property -/
def tPr (C : Addr) (sp : Sp) (E : XK) (ta : TE) : TE := fun σ H Q => ta σ H fun x H1 => ∃ a dx fs, x = .ref a ∧ H1 a = some (.ins C dx fs) ∧ sp [.ref a] H1 Q E
theorem pe_pr {CX : CXT} {k : Nat} {sp : Sp} {E : XK} {g : Addr} {fn : Str} {q : Addr} (he : PE X e ta) (c : Cls X.K C) (hp : PropOf X.K C fn q g) (F : FnG X.prog X.w X.K X.mg X.base CX k g sp) (hr : RoomG (k + 1) X.A) (hx : Passes CX X.nox E)
    (hab : attributeBase e fn X.env (eval e X.env) = eval e X.env := by rfl) : PE X (.Attribute e fn pos) (tPr C sp E ta) := by
  refine ⟨fun pins s σ H Q I h => ?_⟩
  refine attr_of hab (thn (he.run pins s σ H _ I h) fun u s1 ⟨x, H1, I1, rx, a, dx, fs, ex, ea, q⟩ => ?_)
  subst ex
  obtain rfl : u = Value.ref a := rx
  obtain ⟨mA, O, _, _, _, _⟩ := ins_get I1.hok ea
  obtain ⟨od, J, _⟩ := O.look
  obtain ⟨rest, hrec⟩ := hp.rec_
  have I2 := I1.tok (s1.toks + 1)
  have hc : (PySem.W.clsIn X.K C).isSome = true := by
    obtain ⟨cd, hc, _⟩ := PySem.W.any_some c.hd
    rw [hc]
    rfl
  refine PySem.W.get_bind I1.kIn J (PySem.W.plainGet_of (c.get fn)).1 (PySem.W.findObj_data hc hp.at_ hp.get hp.tak) (PySem.W.plainGet_of (c.get fn)).2 (wpAny_call (PySem.W.prop_get (s := { s1 with toks := s1.toks + 1 }) I1.kIn hrec ?_))
  refine codeAny_mono (F X.A.in1 X.stack { s1 with toks := s1.toks + 1 } H1 [.ref a] [.ref a] Q E hr.in1 I2.env0.in1 (.cons rfl .nil) q) fun r s' hq => ?_
  match r, hq with
  | .error er, hq => exact False.elim (hx pins σ H1 { s1 with toks := s1.toks + 1 } er s' (I2.wish _) hq)
  | .ok (.ret u), hq =>
    obtain ⟨v, H', I3, rv, q3⟩ := I2.after hq
    show wpAny _ _ (handedOut u) _ _ _
    rw [PySem.W.handedOut_of (handed_of rv)]
    exact wpAny_pure ⟨v, H', I3, rv, q3⟩
  | .ok .next, hq => exact False.elim hq
  | .ok .brk, hq => exact False.elim hq
  | .ok .cont, hq => exact False.elim hq
end
end Lw

set_option Elab.async false
set_option linter.all false
set_option maxRecDepth 100000
set_option maxHeartbeats 4000000
/-! data that stands: Dx S H v d: v is the data d, read off H at addresses that are not among S (S: what may still change) -/
namespace Lw
open PySem PySem.Spec PyProof.Rows L2 StX
/-- all but what stands at S is kept -/
def Kp (S : List Addr) (H H' : Hp) : Prop := ∀ a o, a ∉ S → H a = some o → H' a = some o
theorem Kp.refl {S : List Addr} {H : Hp} : Kp S H H := fun _ _ _ h => h
theorem Kp.trans {S : List Addr} {H H1 H2 : Hp} (a : Kp S H H1) (b : Kp S H1 H2) : Kp S H H2 := fun x o n h => b x o n (a x o n h)
theorem Kp.mono {S S' : List Addr} {H H' : Hp} (k : Kp S H H') (h : ∀ a, a ∈ S → a ∈ S') : Kp S' H H' := fun a o n e => k a o (fun z => n (h a z)) e
theorem Kp.new {S : List Addr} {H : Hp} {p : Addr} {o : HO} (h : H p = none) : Kp S H (upd H p o) := fun a u _ e => by
  rw [upd_ne (ne_of_none e h)]
  exact e
theorem Kp.mut {S : List Addr} {H : Hp} {p : Addr} {o : HO} (h : p ∈ S) : Kp S H (upd H p o) := fun a u n e => by
  have ne : a ≠ p := fun z => n (z ▸ h)
  rw [upd_ne ne]
  exact e
/-- a new object, changed later on -/
theorem Kp.newS {S : List Addr} {H H' : Hp} {p : Addr} (k : Kp (p :: S) H H') (h : H p = none) : Kp S H H' := fun a u n e => k a u (fun z => by
  rcases List.mem_cons.mp z with z | z
  · rw [z, h] at e
    cases e
  · exact n z) e
theorem Kp.free {S : List Addr} {H H' : Hp} (k : Kp S H H') {p : Addr} (n : p ∉ S) (h : H' p = none) : H p = none := by
  cases q : H p with
  | none => rfl
  | some o =>
    rw [k p o n q] at h
    cases h
theorem Kp.freeS {S : List Addr} {H H' : Hp} (k : Kp S H H') {p : Addr} (hS : ∀ a ∈ S, ∃ o, H' a = some o) (h : H' p = none) : H p = none := k.free (fun z => by
  obtain ⟨o, e⟩ := hS p z
  rw [h] at e
  cases e) h

mutual
inductive Dx (S : List Addr) (H : Hp) : V → PyData → Prop
  | non : Dx S H .non .none
  | bl (b : Bool) : Dx S H (.bl b) (.bool b)
  | int (i : Int) : Dx S H (.int i) (.int i)
  | str (x : Str) : Dx S H (.str x) (.str x)
  | lst {a : Addr} {xs : List V} {ds : List PyData} (n : a ∉ S) (e : H a = some (.lst xs)) (h : DxA S H xs ds) : Dx S H (.ref a) (.list ds)
  | tup {a : Addr} {xs : List V} {ds : List PyData} (n : a ∉ S) (e : H a = some (.tup xs)) (h : DxA S H xs ds) : Dx S H (.ref a) (.tuple ds)
inductive DxA (S : List Addr) (H : Hp) : List V → List PyData → Prop
  | nil : DxA S H [] []
  | cons {v : V} {vs : List V} {d : PyData} {ds : List PyData} (h : Dx S H v d) (t : DxA S H vs ds) : DxA S H (v :: vs) (d :: ds)
end
mutual
theorem Dx.dp {K : PySem.W.Frag} {S : List Addr} {H : Hp} : ∀ {v : V} {d : PyData}, Dx S H v d → Dp K H v d
  | _, _, .non => .non
  | _, _, .bl b => .bl b
  | _, _, .int i => .int i
  | _, _, .str x => .str x
  | _, _, .lst _ e h => .lst (SqL.of e) (DxA.dp h)
  | _, _, .tup _ e h => .tup (SqT.of e) (DxA.dp h)
theorem DxA.dp {K : PySem.W.Frag} {S : List Addr} {H : Hp} : ∀ {vs : List V} {ds : List PyData}, DxA S H vs ds → DpAll K H vs ds
  | _, _, .nil => .nil
  | _, _, .cons h t => .cons (Dx.dp h) (DxA.dp t)
end
mutual
theorem Dx.keep {S : List Addr} {H H' : Hp} (k : Kp S H H') : ∀ {v : V} {d : PyData}, Dx S H v d → Dx S H' v d
  | _, _, .non => .non
  | _, _, .bl b => .bl b
  | _, _, .int i => .int i
  | _, _, .str x => .str x
  | _, _, .lst n e h => .lst n (k _ _ n e) (DxA.keep k h)
  | _, _, .tup n e h => .tup n (k _ _ n e) (DxA.keep k h)
theorem DxA.keep {S : List Addr} {H H' : Hp} (k : Kp S H H') : ∀ {vs : List V} {ds : List PyData}, DxA S H vs ds → DxA S H' vs ds
  | _, _, .nil => .nil
  | _, _, .cons h t => .cons (Dx.keep k h) (DxA.keep k t)
end
mutual
/-- nothing of it stands at an address that H does not know (or that S has already) -/
theorem Dx.wid {S S' : List Addr} {H : Hp} (w : ∀ a, a ∈ S' → a ∈ S ∨ H a = none) : ∀ {v : V} {d : PyData}, Dx S H v d → Dx S' H v d
  | _, _, .non => .non
  | _, _, .bl b => .bl b
  | _, _, .int i => .int i
  | _, _, .str x => .str x
  | _, _, .lst n e h => .lst (fun z => (w _ z).elim n fun q => by rw [q] at e; cases e) e (DxA.wid w h)
  | _, _, .tup n e h => .tup (fun z => (w _ z).elim n fun q => by rw [q] at e; cases e) e (DxA.wid w h)
theorem DxA.wid {S S' : List Addr} {H : Hp} (w : ∀ a, a ∈ S' → a ∈ S ∨ H a = none) : ∀ {vs : List V} {ds : List PyData}, DxA S H vs ds → DxA S' H vs ds
  | _, _, .nil => .nil
  | _, _, .cons h t => .cons (Dx.wid w h) (DxA.wid w t)
end
theorem Dx.sub {S S' : List Addr} {H : Hp} {v : V} {d : PyData} (h : Dx S H v d) (w : ∀ a, a ∈ S' → a ∈ S) : Dx S' H v d := h.wid fun a z => .inl (w a z)
theorem DxA.sub {S S' : List Addr} {H : Hp} {v : List V} {d : List PyData} (h : DxA S H v d) (w : ∀ a, a ∈ S' → a ∈ S) : DxA S' H v d := h.wid fun a z => .inl (w a z)
theorem DxA.length {S : List Addr} {H : Hp} : ∀ {vs : List V} {ds : List PyData}, DxA S H vs ds → vs.length = ds.length
  | _, _, .nil => rfl
  | _, _, .cons _ t => congrArg (· + 1) t.length
theorem DxA.get {S : List Addr} {H : Hp} : ∀ {vs : List V} {ds : List PyData} {i : Nat} {v : V}, DxA S H vs ds → vs[i]? = some v → ∃ d, ds[i]? = some d ∧ Dx S H v d
  | _, _, _, _, .nil, e => by simp at e
  | _, _, 0, _, .cons h _, e => by
    simp at e
    subst e
    exact ⟨_, rfl, h⟩
  | _, _, i + 1, v, .cons _ t, e => by
    obtain ⟨d, h1, h2⟩ := DxA.get (i := i) (v := v) t (by simpa using e)
    exact ⟨d, by simpa using h1, h2⟩
theorem DxA.getD {S : List Addr} {H : Hp} {vs : List V} {ds : List PyData} {i : Nat} {d : PyData} (h : DxA S H vs ds) (e : ds[i]? = some d) : ∃ v, vs[i]? = some v ∧ Dx S H v d := by
  have hl := h.length
  have hi : i < vs.length := by
    have := (List.getElem?_eq_some_iff.mp e).1
    omega
  obtain ⟨d', e1, e2⟩ := h.get (List.getElem?_eq_getElem hi)
  rw [e] at e1
  cases e1
  exact ⟨_, List.getElem?_eq_getElem hi, e2⟩
theorem DxA.append {S : List Addr} {H : Hp} {vs ws : List V} {ds es : List PyData} (h : DxA S H vs ds) (k : DxA S H ws es) : DxA S H (vs ++ ws) (ds ++ es) := by
  induction vs generalizing ds with
  | nil =>
    cases h
    exact k
  | cons v vs ih =>
    cases h with
    | cons h t => exact .cons h (ih t)
theorem DxA.snoc {S : List Addr} {H : Hp} {vs : List V} {ds : List PyData} {v : V} {d : PyData} (h : DxA S H vs ds) (k : Dx S H v d) : DxA S H (vs ++ [v]) (ds ++ [d]) := h.append (.cons k .nil)
theorem DxA.take {S : List Addr} {H : Hp} {vs : List V} {ds : List PyData} (n : Nat) (h : DxA S H vs ds) : DxA S H (vs.take n) (ds.take n) := by
  induction vs generalizing ds n with
  | nil =>
    cases h
    simp
    exact .nil
  | cons v vs ih =>
    cases h with
    | cons h t =>
      cases n with
      | zero => exact .nil
      | succ n => exact .cons h (ih n t)
theorem DxA.drop {S : List Addr} {H : Hp} {vs : List V} {ds : List PyData} (n : Nat) (h : DxA S H vs ds) : DxA S H (vs.drop n) (ds.drop n) := by
  induction vs generalizing ds n with
  | nil =>
    cases h
    simp
    exact .nil
  | cons v vs ih =>
    cases h with
    | cons h t =>
      cases n with
      | zero => exact .cons h t
      | succ n => exact ih n t
theorem DxA.ints {S : List Addr} {H : Hp} : ∀ ns : List Int, DxA S H (ns.map V.int) (ns.map PyData.int)
  | [] => .nil
  | n :: ns => .cons (.int n) (DxA.ints ns)
theorem DxA.ints_eq {S : List Addr} {H : Hp} : ∀ {ns : List Int} {vs : List V}, DxA S H vs (ns.map PyData.int) → vs = ns.map V.int
  | [], _, .nil => rfl
  | n :: ns, _, .cons h t => by
    cases h
    rw [DxA.ints_eq t]
    rfl
theorem DxA.new {S : List Addr} {H : Hp} {p : Addr} {o : HO} {vs : List V} {ds : List PyData} (h : DxA S H vs ds) (n : H p = none) : DxA S (upd H p o) vs ds := h.keep (.new n)
theorem Dx.new {S : List Addr} {H : Hp} {p : Addr} {o : HO} {v : V} {d : PyData} (h : Dx S H v d) (n : H p = none) : Dx S (upd H p o) v d := h.keep (.new n)
theorem Dx.tupN {S : List Addr} {H : Hp} {p : Addr} {vs : List V} {ds : List PyData} (h : DxA S H vs ds) (n : H p = none) (nS : p ∉ S) : Dx S (upd H p (.tup vs)) (.ref p) (.tuple ds) := .tup nS upd_same (h.new n)
theorem Dx.lstN {S : List Addr} {H : Hp} {p : Addr} {vs : List V} {ds : List PyData} (h : DxA S H vs ds) (n : H p = none) (nS : p ∉ S) : Dx S (upd H p (.lst vs)) (.ref p) (.list ds) := .lst nS upd_same (h.new n)

/-! ### typed data -/
class En (α : Type) where
  enc : α → PyData
class Py (α : Type) extends En α where
  dep : Nat
  eqv : ∀ a b, PyData.eqv (enc a) (enc b) = true ↔ a = b
  lay : ∀ a, (enc a).canLay0 = true
  dle : ∀ a, (enc a).depth ≤ dep
open En (enc)
instance : En Int where
  enc := .int
instance {α β : Type} [En α] [En β] : En (α × β) where
  enc := fun p => .tuple [enc p.1, enc p.2]
instance {α : Type} [En α] : En (List α) where
  enc := fun as => .list (as.map enc)
/-- a tuple of any length -/
structure Tu (α : Type) where
  l : List α
instance {α : Type} [DecidableEq α] : DecidableEq (Tu α) := fun a b => decidable_of_iff (a.l = b.l) ⟨fun h => by cases a; cases b; cases h; rfl, fun h => by rw [h]⟩
instance {α : Type} [En α] : En (Tu α) where
  enc := fun as => .tuple (as.l.map enc)
instance : Py Int where
  dep := 0
  eqv := fun a b => by simp [enc, PyData.eqv]
  lay := fun a => by simp [enc, PyData.canLay0]
  dle := fun a => by simp [enc, PyData.depth]
instance {α β : Type} [Py α] [Py β] : Py (α × β) where
  dep := max (Py.dep α) (Py.dep β) + 1
  eqv := fun a b => by
    show PyData.eqv (.tuple [enc a.1, enc a.2]) (.tuple [enc b.1, enc b.2]) = true ↔ a = b
    simp only [PyData.eqv, PyData.eqvAll, Bool.and_eq_true, Bool.and_true, Py.eqv]
    constructor
    · rintro ⟨h1, h2⟩
      exact Prod.ext h1 h2
    · rintro rfl
      exact ⟨rfl, rfl⟩
  lay := fun a => by
    show (PyData.tuple [enc a.1, enc a.2]).canLay0 = true
    simp [PyData.canLay0, PyData.canLayAll0, Py.lay]
  dle := fun a => by
    have h1 := Py.dle a.1
    have h2 := Py.dle a.2
    show (PyData.tuple [enc a.1, enc a.2]).depth ≤ _
    simp only [PyData.depth, PyData.depthAll]
    omega
theorem eqvAll_enc {α : Type} [Py α] : ∀ as bs : List α, PyData.eqvAll (as.map enc) (bs.map enc) = true ↔ as = bs
  | [], [] => by simp [PyData.eqvAll]
  | [], b :: bs => by simp [PyData.eqvAll]
  | a :: as, [] => by simp [PyData.eqvAll]
  | a :: as, b :: bs => by simp [PyData.eqvAll, Py.eqv, eqvAll_enc as bs]
theorem layAll_enc {α : Type} [Py α] : ∀ as : List α, PyData.canLayAll0 (as.map enc) = true
  | [] => by simp [PyData.canLayAll0]
  | a :: as => by simp [PyData.canLayAll0, Py.lay, layAll_enc as]
theorem depAll_enc {α : Type} [Py α] : ∀ as : List α, PyData.depthAll (as.map enc) ≤ Py.dep α
  | [] => by simp [PyData.depthAll]
  | a :: as => by
    have h1 := depAll_enc as
    have h2 := Py.dle a
    simp only [List.map_cons, PyData.depthAll]
    omega
instance {α : Type} [Py α] : Py (List α) where
  dep := Py.dep α + 1
  eqv := fun a b => by
    show PyData.eqv (.list (a.map enc)) (.list (b.map enc)) = true ↔ a = b
    simp only [PyData.eqv, eqvAll_enc]
  lay := fun a => by
    show (PyData.list (a.map enc)).canLay0 = true
    simp only [PyData.canLay0, layAll_enc]
  dle := fun a => by
    have h1 := depAll_enc a
    show (PyData.list (a.map enc)).depth ≤ _
    simp only [PyData.depth]
    omega
instance {α : Type} [Py α] : Py (Tu α) where
  dep := Py.dep α + 1
  eqv := fun a b => by
    obtain ⟨a⟩ := a
    obtain ⟨b⟩ := b
    show PyData.eqv (.tuple (a.map enc)) (.tuple (b.map enc)) = true ↔ Tu.mk a = Tu.mk b
    simp only [PyData.eqv, eqvAll_enc, Tu.mk.injEq]
  lay := fun a => by
    show (PyData.tuple (a.l.map enc)).canLay0 = true
    simp only [PyData.canLay0, layAll_enc]
  dle := fun a => by
    have h1 := depAll_enc a.l
    show (PyData.tuple (a.l.map enc)).depth ≤ _
    simp only [PyData.depth]
    omega
theorem shaped_enc {α : Type} [Py α] (h : Py.dep α ≤ 64) (a : α) : SeqAt.shaped (enc a) = true := by
  show ((enc a).canLay0 && decide ((enc a).depth ≤ 64)) = true
  rw [Py.lay, decide_eq_true (Nat.le_trans (Py.dle a) h)]
  rfl
theorem eqv_enc {α : Type} [Py α] [DecidableEq α] (a b : α) : PyData.eqv (enc a) (enc b) = decide (a = b) := by
  by_cases h : a = b
  · rw [decide_eq_true h]
    exact (Py.eqv a b).mpr h
  · rw [decide_eq_false h]
    cases q : PyData.eqv (enc a) (enc b) with
    | false => rfl
    | true => exact absurd ((Py.eqv a b).mp q) h
/-- v is the data a -/
abbrev De {α : Type} [En α] (S : List Addr) (H : Hp) (v : V) (a : α) : Prop := Dx S H v (enc a)
abbrev DeA {α : Type} [En α] (S : List Addr) (H : Hp) (vs : List V) (as : List α) : Prop := DxA S H vs (as.map enc)
end Lw

set_option Elab.async false
set_option linter.all false
set_option maxRecDepth 100000
set_option maxHeartbeats 4000000
/-! operators of own classes -/
namespace Lw
open PySem PySem.Spec PyProof.Rows L2 StX
section
open PySem.W (clsIn findIn isFn subIn typeIn notFirst selfFirst noSeq fnIn)
variable {X : Cx} {CX : CXT} {k : Nat} {f C : Addr} {sp : Sp} {E : XK} {pins : List (Addr × Obj)} {σ : L2.St} {H : Hp} {s : Shared}
theorem looks_is {M : Model} {h : Heap} {v : Value} {T : String} (ht : ∀ s : Shared, (∀ b o, h.get? b = some o → s.heap.get? b = some o) → s.TypeIs v T) : PySem.W.Looks M h (typeOf v) (.type T) :=
  fun A Q E s kp q => wpAny_typeOf (ht s kp) q
/-- what type an operand has -/
theorem looks_ty {M : Model} {y : V} {u : Value} {T : String} (I : Inv X pins σ H s) (ry : RelV y u) (ty : TyOf X.K H y (.type T)) : PySem.W.Looks M s.heap (typeOf u) (.type T) := by
  generalize hT : Value.type T = t at ty
  cases ty with
  | non =>
    cases hT
    cases ry
    exact .of_pure rfl
  | bl b =>
    cases hT
    cases ry
    exact .of_pure rfl
  | int i =>
    cases hT
    obtain ⟨t, rfl⟩ := ry
    exact .of_pure rfl
  | str x =>
    cases hT
    obtain ⟨t, rfl⟩ := ry
    exact .of_pure rfl
  | flt x =>
    cases hT
    obtain ⟨t, rfl⟩ := ry
    exact .of_pure rfl
  | @lst a xs e =>
    cases hT
    cases ry
    obtain ⟨_, _, n, _, h1⟩ := (show ObjOk X.prog X.w H s.heap a (.lst xs) from I.hok a _ e)
    exact looks_is fun s' kp => ⟨_, kp _ _ h1, rfl⟩
  | @frz a ob xs e =>
    cases hT
    cases ry
    obtain ⟨_, _, _, n, _, h1⟩ := (show ObjOk X.prog X.w H s.heap a (.frz ob (.lst xs)) from I.hok a _ e)
    exact looks_is fun s' kp => ⟨_, kp _ _ h1, rfl⟩
  | @tup a xs e =>
    cases hT
    cases ry
    obtain ⟨_, _, _, o, h1, h2, _⟩ := (show ObjOk X.prog X.w H s.heap a (.tup xs) from I.hok a _ e)
    exact looks_is fun s' kp => ⟨o, kp _ _ h1, h2⟩
  | @dK a kvs e =>
    cases hT
    cases ry
    obtain ⟨_, _, vs, _, o, es, ep, h1, h2, _⟩ := (show ObjOk X.prog X.w H s.heap a (.dK kvs) from I.hok a _ e)
    exact looks_is fun s' kp => ⟨o, kp _ _ h1, h2.1⟩
  | @dT a kvs e =>
    cases hT
    cases ry
    obtain ⟨_, _, xs, _, o, es, ep, h1, h2, _⟩ := (show ObjOk X.prog X.w H s.heap a (.dT kvs) from I.hok a _ e)
    exact looks_is fun s' kp => ⟨o, kp _ _ h1, h2.1⟩
  | ins e => cases hT
theorem ins_at {a dx : Addr} {fs : List (Str × V)} (I : Inv X pins σ H s) (e : H a = some (.ins C dx fs)) : ∃ od, PySem.W.InstAt s.heap a (PySem.W.instObj C dx) C (some od) := by
  obtain ⟨mA, O, _⟩ := ins_get I.hok e
  obtain ⟨od, J, _⟩ := O.look
  exact ⟨od, J⟩
/-- a op b: a an instance of C, b of a built-in type -/
structure BinOwn (K : PySem.W.Frag) (op : Operator) (C f : Addr) : Prop where
  first : selfFirst K C = true
  at_ : findIn K (.ref C) (PySem.dunder op.info.2) = some (some (.ref f))
  fn : isFn K (.ref f) = true
  refl : findIn K (.ref C) (dunderR op.info.2) = some none
theorem binT {prog : Program} {w : World} {A : Around} {E : Value → Shared → Prop} {s : Shared} {K : PySem.W.Frag} {x C L f : Addr} {h₀ : Heap} {m : Str → Option Value} {ox : Obj} {od : Option Obj} {T : String} {op : Operator} {b : Value} {fo ro : Option Value} {Q : Value → Shared → Prop} (F : Fr h₀ L s.heap m) (X₀ : K.In h₀) (I : PySem.W.InstAt s.heap x ox C od) (hb : PySem.W.Looks (model prog w) s.heap (typeOf b) (.type T)) (B : BinOwn K op C f)
    (h1 : findIn K (.type T) (PySem.dunder op.info.2) = some fo) (h2 : findIn K (.type T) (dunderR op.info.2) = some ro) (hsub : subIn K (.type T) (.ref C) = some false)
    (h : wpAny (model prog w) A (call (.ref f) [.ref x, b]) (PySem.W.CmpBack Q) E s) : wpAny (model prog w) A (binaryOp op (.ref x) b) Q E s := by
  have X := X₀.keeps F.keep
  obtain ⟨cd, rest, hcd, hm⟩ := PySem.W.ksp_first B.first
  obtain ⟨_, hs, hf, hr⟩ := B
  rcases hi : op.info with ⟨sym, nm'⟩
  rw [hi] at hs hr h1 h2
  dsimp only at hs hr h1 h2
  have one := PySem.W.ksp_try X I hs hf h
  obtain ⟨hh, g, d, tt, os⟩ := s
  have L1 : PySem.W.Looks (model prog w) hh (typeOf (.ref x)) (.ref C) := I.type
  have L2 : PySem.W.Looks (model prog w) hh (typeOf b) (.type T) := hb
  have L3 : PySem.W.Looks (model prog w) hh (fillsNumberSlot (.ref C) nm') true := PySem.W.fills_K X hcd hm hs
  have L4 : PySem.W.Looks (model prog w) hh (fillsNumberSlot (.type T) nm') ((fo.isSome && !isSeqSlot fo) || (ro.isSome && !isSeqSlot ro)) := PySem.W.ksp_fillsT X h1 h2
  have L5 : PySem.W.Looks (model prog w) hh (isSubtype (.type T) (.ref C)) false := PySem.W.looks_subIn X hsub
  have L6 : PySem.W.Looks (model prog w) hh (numberSlotInPython (.ref C) nm') true := PySem.W.ksp_inPy X hs hr (.inl rfl)
  have L7 : PySem.W.Looks (model prog w) hh (numberSlotInPython (.type T) nm') false := PySem.W.Looks.of_pure rfl
  have L8 : PySem.W.Looks (model prog w) hh (typeLookup (.type T) (dunderR nm')) ro := PySem.W.looks_findIn X h2
  generalize ((fo.isSome && !isSeqSlot fo) || (ro.isSome && !isSeqSlot ro)) = right at L4
  have hne : (Value.ref C == Value.type T) = false := Bool.eq_false_iff.mpr fun q => by cases beq_iff_eq.mp q
  simp only [binaryOp, hi]
  refine wpAny_holding (wpAny_bind ?_)
  unfold binaryOp1
  refine wpAny_bind (L1.at (wpAny_bind (L2.at (wpAny_bind (L3.at ?_)))))
  simp only [hne, Bool.false_eq_true, if_false]
  cases right with
  | false =>
    ksp_lk
    refine wpAny_mono one (fun r s' hr' => ?_) fun _ _ e => e
    obtain ⟨v, rfl, hq⟩ := hr'
    ksp_lk
    exact hq
  | true =>
    ksp_lk
    refine wpAny_mono one (fun r s' hr' => ?_) fun _ _ e => e
    obtain ⟨v, rfl, hq⟩ := hr'
    ksp_lk
    exact hq

/-! over the layer -/
def rOwnT (K : PySem.W.Frag) (C : Addr) (T : String) (sp : Sp) (E : XK) : R2 := fun x y H Q => ∃ a dx fs, x = .ref a ∧ H a = some (.ins C dx fs) ∧ TyOf K H y (.type T) ∧ sp [x, y] H Q E
def rOwnI (C : Addr) (sp : Sp) (E : XK) : R2 := fun x y H Q => ∃ a dx fs b dy gs, x = .ref a ∧ y = .ref b ∧ H a = some (.ins C dx fs) ∧ H b = some (.ins C dy gs) ∧ sp [x, y] H Q E
theorem op_ownT {op : Operator} {T : String} {fo ro : Option Value} (B : BinOwn X.K op C f) (h1 : findIn X.K (.type T) (PySem.dunder op.info.2) = some fo) (h2 : findIn X.K (.type T) (dunderR op.info.2) = some ro) (hsub : subIn X.K (.type T) (.ref C) = some false)
    (F : FnG X.prog X.w X.K X.mg X.base CX k f sp) (hr : RoomG k X.A) (hx : Passes CX X E) : OpR X (binaryOp op) (rOwnT X.K C T sp E) := by
  intro pins s σ H x y v u Q I rx ry h
  obtain ⟨a, dx, fs, rfl, ha, ty, q⟩ := h
  cases (show v = Value.ref a from rx)
  obtain ⟨od, J⟩ := ins_at I ha
  obtain ⟨m, hF⟩ := I.fr
  refine binT hF I.ok.mod.kin J (looks_ty I ry ty) B h1 h2 hsub ?_
  refine wpAny_mono (run_g (us := [.ref a, u]) (vs := [.ref a, y]) F hr hx I (.cons rfl (.cons ry .nil)) q) (fun w s' z => ?_) fun _ _ x => x
  obtain ⟨z', H', I', rz, qz⟩ := z
  exact SlX.cmpback rz ⟨z', H', I', rz, qz⟩
theorem op_ownI {op : Operator} (B : BinOwn X.K op C f) (F : FnG X.prog X.w X.K X.mg X.base CX k f sp) (hr : RoomG k X.A) (hx : Passes CX X E) : OpR X (binaryOp op) (rOwnI C sp E) := by
  intro pins s σ H x y v u Q I rx ry h
  obtain ⟨a, dx, fs, b, dy, gs, rfl, rfl, ha, hb, q⟩ := h
  cases (show v = Value.ref a from rx)
  cases (show u = Value.ref b from ry)
  obtain ⟨od, J⟩ := ins_at I ha
  obtain ⟨od', J'⟩ := ins_at I hb
  obtain ⟨m, hF⟩ := I.fr
  refine PySem.W.binop_K hF I.ok.mod.kin J J'.type B.first B.at_ B.fn ?_
  refine wpAny_mono (run_g (us := [.ref a, .ref b]) (vs := [.ref a, .ref b]) F hr hx I (.cons rfl (.cons rfl .nil)) q) (fun w s' z => ?_) fun _ _ x => x
  obtain ⟨z', H', I', rz, qz⟩ := z
  exact SlX.cmpback rz ⟨z', H', I', rz, qz⟩
/-- o[i], o an instance with __getitem__ -/
structure GetOwn (K : PySem.W.Frag) (C f : Addr) : Prop where
  at_ : findIn K (.ref C) "__getitem__" = some (some (.ref f))
  fi : fnIn K f = true
  fn : isFn K (.ref f) = true
def rGet (C : Addr) (sp : Sp) (E : XK) : R2 := fun x y H Q => ∃ a dx fs, x = .ref a ∧ H a = some (.ins C dx fs) ∧ sp [x, y] H Q E
theorem pe_getOwn {a b : Expr} {ta tb : TE} {pos : Pos} (G : GetOwn X.K C f) (F : FnG X.prog X.w X.K X.mg X.base CX k f sp) (hr : RoomG (k + 1) X.A) (hx : Passes CX X E) (ha : PE X a ta) (hb : PE X b tb)
    (hs : ∀ o i, subscripted b true o i = runValue (.builtin "lifetime.subscript" ⟨[o, i], []⟩) := by intro _ _; with_unfolding_all rfl) : PE X (.Subscript a b pos) (tOp (rGet C sp E) ta tb) := by
  refine ⟨fun pins s σ H Q I h => ?_⟩
  refine Subscript_ (L2.binT ha hb I h fun v u s2 x y H2 I2 rx ry q => ?_)
  obtain ⟨p, dx, fs, rfl, hp, q⟩ := q
  cases (show v = Value.ref p from rx)
  obtain ⟨od, J⟩ := ins_at I2 hp
  obtain ⟨m, hF⟩ := I2.fr
  exact PySem.W.sub_K hF I2.ok.mod.kin J G.at_ G.fi G.fn (run_g1 (us := [.ref p, u]) (vs := [.ref p, y]) F hr hx I2 (.cons rfl (.cons ry .nil)) q) (hs _ _)
/-- repr(o), len(o) -/
def rRepr (C : Addr) (sp : Sp) (E : XK) : List V → Hp → VK → Prop := fun xs H Q => ∃ a dx fs, xs = [.ref a] ∧ H a = some (.ins C dx fs) ∧ sp xs H (fun v H' => ∃ z, v = .str z ∧ Q (.str z) H') E
theorem call_reprOwn (hs : findIn X.K (.ref C) "__repr__" = some (some (.ref f))) (hf : isFn X.K (.ref f) = true) (F : FnG X.prog X.w X.K X.mg X.base CX k f sp) (hr : RoomG (k + 1) X.A) (hx : Passes CX X E) : CallR X (.builtin "repr") (rRepr C sp E) := by
  intro pins s σ H xs us Q I r h
  obtain ⟨a, dx, fs, rfl, ha, q⟩ := h
  obtain ⟨u, rfl, ru⟩ := vals1 r
  cases (show u = Value.ref a from ru)
  obtain ⟨od, J⟩ := ins_at I ha
  obtain ⟨m, hF⟩ := I.fr
  refine PySem.W.repr_K (by have := hr.units; have e : X.A.in1.units = X.A.units + 1 := rfl; omega) hF I.ok.mod.kin J hs hf (wpAny_mono (run_g1 (us := [.ref a]) (vs := [.ref a]) F hr hx I (.cons rfl .nil) q) (fun w s' z => ?_) fun _ _ x => x)
  obtain ⟨z', H', I', rz, y, rfl, qz⟩ := z
  obtain ⟨t, rfl⟩ := rz
  exact ⟨.str y, H', I', ⟨t, rfl⟩, qz⟩
def rLen (C : Addr) (sp : Sp) (E : XK) : List V → Hp → VK → Prop := fun xs H Q => ∃ a dx fs, xs = [.ref a] ∧ H a = some (.ins C dx fs) ∧ sp xs H (fun v H' => ∃ n : Int, v = .int n ∧ 0 ≤ n ∧ n < 2 ^ 63 ∧ Q (.int n) H') E
theorem call_lenOwn (hs : findIn X.K (.ref C) "__len__" = some (some (.ref f))) (hf : isFn X.K (.ref f) = true) (F : FnG X.prog X.w X.K X.mg X.base CX k f sp) (hr : RoomG (k + 1) X.A) (hx : Passes CX X E) : CallR X (.builtin "len") (rLen C sp E) := by
  intro pins s σ H xs us Q I r h
  obtain ⟨a, dx, fs, rfl, ha, q⟩ := h
  obtain ⟨u, rfl, ru⟩ := vals1 r
  cases (show u = Value.ref a from ru)
  obtain ⟨od, J⟩ := ins_at I ha
  obtain ⟨m, hF⟩ := I.fr
  refine PySem.W.len_K hF I.ok.mod.kin J hs hf (wpAny_mono (run_g1 (us := [.ref a]) (vs := [.ref a]) F hr hx I (.cons rfl .nil) q) (fun w s' z => ?_) fun _ _ x => x)
  obtain ⟨z', H', I', rz, y, rfl, h0, h1, qz⟩ := z
  obtain ⟨t, rfl⟩ := rz
  exact ⟨⟨h0, h1⟩, .int y, H', I'.tok _, ⟨_, rfl⟩, qz⟩
/-- o == y, o != y by an own __eq__ -/
structure EqOwn (K : PySem.W.Frag) (C f : Addr) : Prop where
  at_ : findIn K (.ref C) "__eq__" = some (some (.ref f))
  fn : isFn K (.ref f) = true
  ne : findIn K (.ref C) "__ne__" = some (some (.builtin "object.__ne__"))
  obj : PySem.W.mroIn K C (.type "object") = some true
def EqTo (K : PySem.W.Frag) (C : Addr) (H : Hp) (y : V) : Prop := (∃ T, TyOf K H y (.type T) ∧ subIn K (.type T) (.ref C) = some false) ∨ ∃ b dy gs, y = .ref b ∧ H b = some (.ins C dy gs)
def rEqO (K : PySem.W.Frag) (C : Addr) (sp : Sp) (E : XK) : R2 := fun x y H Q => ∃ a dx fs, x = .ref a ∧ H a = some (.ins C dx fs) ∧ EqTo K C H y ∧ sp [x, y] H (fun v H' => ∃ c, v = .bl c ∧ Q (.bl c) H') E
def rNeO (K : PySem.W.Frag) (C : Addr) (sp : Sp) (E : XK) : R2 := fun x y H Q => ∃ a dx fs, x = .ref a ∧ H a = some (.ins C dx fs) ∧ EqTo K C H y ∧ sp [x, y] H (fun v H' => ∃ c, v = .bl c ∧ Q (.bl (!c)) H') E
theorem eqTo_looks {M : Model} {y : V} {u : Value} (I : Inv X pins σ H s) (ry : RelV y u) (h : EqTo X.K C H y) : ∃ tb, PySem.W.Looks M s.heap (typeOf u) tb ∧ notFirst X.K C tb = true := by
  rcases h with ⟨T, ty, hs⟩ | ⟨b, dy, gs, rfl, hb⟩
  · refine ⟨_, looks_ty I ry ty, ?_⟩
    unfold PySem.W.notFirst
    rw [hs]
    simp
  · cases (show u = Value.ref b from ry)
    obtain ⟨od, J⟩ := ins_at I hb
    refine ⟨_, J.type, ?_⟩
    unfold PySem.W.notFirst
    simp
theorem op_eqO (O : EqOwn X.K C f) (F : FnG X.prog X.w X.K X.mg X.base CX k f sp) (hr : RoomG k X.A) (hx : Passes CX X E) : OpR X (compareOp .Eq) (rEqO X.K C sp E) := by
  intro pins s σ H x y v u Q I rx ry h
  obtain ⟨a, dx, fs, rfl, ha, hy, q⟩ := h
  cases (show v = Value.ref a from rx)
  obtain ⟨od, J⟩ := ins_at I ha
  obtain ⟨m, hF⟩ := I.fr
  obtain ⟨tb, hb, hn⟩ := eqTo_looks (M := model X.prog X.w) I ry hy
  show wpAny _ _ (richCompare .Eq (.ref a) u) _ _ _
  refine PySem.W.cmp_K (op := .Eq) (tb := tb) hr.units0 hF I.ok.mod.kin J hb hn O.at_ O.fn ?_
  refine wpAny_mono (run_g (us := [.ref a, u]) (vs := [.ref a, y]) F hr hx I (.cons rfl (.cons ry .nil)) q) (fun w s' z => ?_) fun _ _ x => x
  obtain ⟨z', H', I', rz, c, rfl, qz⟩ := z
  exact SlX.cmpback rz ⟨_, H', I', rz, qz⟩
theorem ifBound_ne {M : Model} {A : Around} {Ex : Value → Shared → Prop} {x : Addr} {ox : Obj} {od : Option Obj} {args : List Value} {Q : Option Value → Shared → Prop} {K : PySem.W.Frag} (X : K.In s.heap) (I : PySem.W.InstAt s.heap x ox C od) (hs : findIn K (.ref C) "__ne__" = some (some (.builtin "object.__ne__")))
    (h : wpAny M A (call (.builtin "object.__ne__") (.ref x :: args)) (fun v => Q (some v)) Ex s) : wpAny M A (callSpecialIfBound? (.ref x) "__ne__" args) Q Ex s := by
  simp only [callSpecialIfBound?, bindSpecialIfBound?]
  refine wpAny_holding (wpAny_bind (wpAny_bind (wpAny_bind (I.type.here ((PySem.W.looks_findIn X hs).here ?_)))))
  refine wpAny_bind (wpAny_askSetting (wpAny_ite ?_))
  have fin : wpAny M A (call (.builtin "object.__ne__") ([.ref x] ++ args) >>= fun v => pure (some v)) Q Ex s := wpAny_bind (wpAny_mono h (fun v s' h' => wpAny_pure h') fun _ _ h' => h')
  split
  · exact wpAny_bind (wpAny_of_eq (F.cmp_object.ne.bind _) (wpAny_pure (by exact fin)))
  · exact wpAny_tryCatch (wpAny_bind (wpAny_of_eq (F.cmp_object.ne.bind _) (wpAny_pure (by exact fin))))
theorem call_objNe {prog : Program} {w : World} {A : Around} {Ex : Value → Shared → Prop} {x : Addr} {b : Value} {ox : Obj} {od : Option Obj} {Q : Value → Shared → Prop} {K : PySem.W.Frag} (X : K.In s.heap) (I : PySem.W.InstAt s.heap x ox C od) (hm : PySem.W.mroIn K C (.type "object") = some true)
    (hs : findIn K (.ref C) "__eq__" = some (some (.ref f))) (hf : isFn K (.ref f) = true) (hu : A.in1.units < cLine)
    (h : wpAny (model prog w) A.in1 (call (.ref f) [.ref x, b]) (fun v s' => ∃ c, v = .bool c ∧ Q (.bool (!c)) s') Ex s) :
    wpAny (model prog w) A (call (.builtin "object.__ne__") [.ref x, b]) Q Ex s := by
  refine wpAny_call (codeAny_call_builtin F.cmp_object.ne.plain F.cmpEntry_ne (PySem.W.check_slot F.cmpKind_ne F.cmpSplit_ne (I.type.andThen (PySem.W.looks_mroIn X hm)) (F.cmpArgs_ne _ _) ?_))
  unfold Builtin.«object.__ne__»
  refine wpAny_bind (m := slotArgs "__ne__" 1 _) (wpAny_pure ?_)
  refine wpAny_bind (wpAny_cRoomFor hu ?_)
  refine wpAny_bind (m := callSpecialIfBound? (.ref x) "__eq__" [b]) (PySem.W.ifBound_K X I hs hf (wpAny_mono h (fun v s' z => ?_) fun _ _ e => e))
  obtain ⟨c, rfl, q⟩ := z
  exact wpAny_bind (wpAny_truthy_bool (wpAny_pure q))
theorem op_neO (O : EqOwn X.K C f) (F : FnG X.prog X.w X.K X.mg X.base CX k f sp) (hr : RoomG (k + 1) X.A) (hx : Passes CX X E) : OpR X (compareOp .NotEq) (rNeO X.K C sp E) := by
  intro pins s σ H x y v u Q I rx ry h
  obtain ⟨a, dx, fs, rfl, ha, hy, q⟩ := h
  cases (show v = Value.ref a from rx)
  obtain ⟨od, J⟩ := ins_at I ha
  obtain ⟨tb, hb, hn⟩ := eqTo_looks (M := model X.prog X.w) I ry hy
  have hu : X.A.in1.units < cLine := by have := hr.units; have e : X.A.in1.units = X.A.units + 1 := rfl; omega
  have one : wpAny (model X.prog X.w) X.A (tryCompare (.ref a) "__ne__" u) (fun r s' => ∃ v, r = some v ∧ EP X pins σ Q v s') X.xe s := by
    unfold tryCompare
    refine wpAny_bind (ifBound_ne I.kIn J O.ne (call_objNe I.kIn J O.obj O.at_ O.fn hu (wpAny_mono (run_g1 (us := [.ref a, u]) (vs := [.ref a, y]) F hr hx I (.cons rfl (.cons ry .nil)) q) (fun w s' z => ?_) fun _ _ x => x)))
    obtain ⟨z', H', I', rz, c, rfl, qz⟩ := z
    cases (show w = Value.bool c from rz)
    exact ⟨c, rfl, wpAny_pure ⟨_, rfl, .bl (!c), H', I', rfl, qz⟩⟩
  show wpAny _ _ (richCompare .NotEq (.ref a) u) _ _ _
  unfold richCompare
  simp only [PySem.oneThing_ref]
  refine wpAny_holding (wpAny_bind (wpAny_cRoomFor hr.units0 ?_))
  refine wpAny_bind (J.type.here (wpAny_bind (hb.here ?_)))
  have fin : wpAny (model X.prog X.w) X.A (do
      let __do_lift ← tryCompare (.ref a) (cmpInfo .NotEq).2.1 u
      match __do_lift with
      | some v => return v
      | none => unsupported "x") (EP X pins σ Q) X.xe s := wpAny_bind (wpAny_mono one (fun r s' z => by
        obtain ⟨v, rfl, hq⟩ := z
        exact wpAny_pure hq) fun _ _ e => e)
  split
  · rename_i q
    have e : subIn X.K tb (.ref C) = some false := by
      rcases Bool.or_eq_true_iff.mp hn with e | e
      · rw [beq_iff_eq.mp e] at q; simp at q
      · exact beq_iff_eq.mp e
    refine wpAny_bind ((PySem.W.looks_subIn I.kIn e).here ?_)
    simp only [Bool.false_eq_true, if_false]
    refine wpAny_bind (m := tryCompare (.ref a) _ u) (wpAny_mono one (fun r s' z => ?_) fun _ _ e => e)
    obtain ⟨v, rfl, hq⟩ := z
    exact wpAny_pure hq
  · refine wpAny_bind (wpAny_pure ?_)
    simp only [Bool.false_eq_true, if_false]
    refine wpAny_bind (m := tryCompare (.ref a) _ u) (wpAny_mono one (fun r s' z => ?_) fun _ _ e => e)
    obtain ⟨v, rfl, hq⟩ := z
    exact wpAny_pure hq
end
end Lw

set_option Elab.async false
set_option linter.all false
set_option maxRecDepth 100000
set_option maxHeartbeats 4000000
/-! enumerate over a tuple, from any start -/
namespace PySem
open Sem (wp)
set_option maxHeartbeats 1000000 in
theorem meets_enumerate_newB1 {v : Value} {o : Obj} {H : Heap → Prop} (B : Begins v o H) :
    Meets (Builtin.«enumerate.__new__» ⟨[.type "enumerate", v], []⟩) (fun _ R s => H s.heap ∧
      R (.ok (.ret (.ref (s.heap.push o).objs.size))) { s with heap := (s.heap.push o).push { cls := .type "enumerate", data := .fields #[.none, .bool false, .ref s.heap.objs.size, rawInt 0, .none, .none] } }) :=
  .of_wp fun prog w A R s h => by
    obtain ⟨hp, g, d, tk, os⟩ := s; obtain ⟨h1, h⟩ := h
    have hsub := sub_enumerate
    have q1 : ∀ {A' : Around} {E : Value → Shared → Prop} {Q : Value → Shared → Prop}, Q (.ref hp.objs.size) ⟨hp.push o, g, d, tk, os⟩ → wpAny (model prog w) A' (pyIter v) Q E ⟨hp, g, d, tk, os⟩ :=
      fun q => B.iter prog w _ _ ⟨hp, g, d, tk, os⟩ _ h1 q
    wp_walk using q1
    refine wpAny_stack_any fun st => wpAny_pure ?_
    split
    · rename_i c _ _ _ _ _
      cases (c == Value.type "enumerate")
      · wp_walk using q1
        exact ⟨_, rfl, h⟩
      · wp_walk using q1
        exact ⟨_, rfl, h⟩
    · wp_walk using q1
      exact ⟨_, rfl, h⟩
theorem enum_begins1 {prog : Program} {w : World} {A : Around} {E : Value → Shared → Prop} {s : Shared} {v : Value} {o : Obj} {H : Heap → Prop} {Q : Value → Shared → Prop} (B : Begins v o H) (h1 : H s.heap)
    (h : ∀ h', IsEnum h' (s.heap.objs.size + 1) s.heap.objs.size 0 .none → h'.get? s.heap.objs.size = some o → h'.objs.size = s.heap.objs.size + 2 →
      (∀ b o, s.heap.get? b = some o → h'.get? b = some o) → Q (.ref (s.heap.objs.size + 1)) { s with heap := h' }) :
    wpAny (model prog w) A (call (.type "enumerate") [v]) Q E s := by
  refine callType_new F.called_enumerate (by decide) (F.typeCall_enumerate_1 _) (F.newCall_enumerate_1 _) (fun obj => F.args_object_init_2 obj _) F.entry_enumerate_new
    (meets_enumerate_newB1 B) ⟨h1, ?_⟩
  have hz : (s.heap.push o).objs.size = s.heap.objs.size + 1 := Heap.size_push ..
  show _ ∧ _
  rw [hz]
  have he : IsEnum ((s.heap.push o).push { cls := .type "enumerate", data := .fields #[.none, .bool false, .ref s.heap.objs.size, rawInt 0, .none, .none] }) (s.heap.objs.size + 1) s.heap.objs.size 0 .none := by
    have := Heap.get?_push_size (s.heap.push o) (o := { cls := .type "enumerate", data := .fields #[.none, .bool false, .ref s.heap.objs.size, rawInt 0, .none, .none] }) rfl
    rw [hz] at this; exact this
  refine ⟨⟨_, he, rfl⟩, h _ he (Heap.get?_push_of_some _ (Heap.get?_push_size _ B.free)) (by rw [Heap.size_push, hz]) fun b o x => Heap.get?_push_of_some _ (Heap.get?_push_of_some _ x)⟩
end PySem
namespace Lw
open PySem PySem.Spec PyProof.Rows L2 StX
/-- the tuple at a, each item in a new pair behind its number -/
def IteT (K : PySem.W.Frag) (a : Addr) (k₀ : Int) : It :=
  ⟨fun i H => ∃ (xs : List V) (x : V), SqT K H a xs ∧ xs[i]? = some x, fun i H v H' => ∃ T x, v = .ref T ∧ H T = none ∧ H' = upd H T (.tup [.int (k₀ + (i : Nat)), x]) ∧ ∀ xs, SqT K H a xs → xs[i]? = some x, fun i H => ∃ xs : List V, SqT K H a xs ∧ xs.length ≤ i⟩
theorem turn_enumT {P : Program} {w : World} {K : PySem.W.Frag} {elts : List Expr} {kk : Nat} {tpos : Pos} (k₀ : Int) (a e it : Addr) :
    Turn P w K (.Tuple elts kk tpos) (IteT K a k₀) [e, it] e (fun i h => (∃ old, IsEnum h e it (k₀ + ((i : Nat) : Int)) old) ∧ h.IsTupleIter it a i ∧ e ≠ it) where
  mem := by simp
  obj := fun i h st b hb => by
    obtain ⟨⟨old, he⟩, ⟨o, ho, hc, hd⟩, _⟩ := st
    have e' : b = e ∨ b = it := by simpa using hb
    rcases e' with z | z
    · rw [z]; exact ⟨_, he, fun v q => nomatch q⟩
    · rw [z]; exact ⟨o, ho, fun v q => by rw [hd] at q; cases q⟩
  keep := fun i h h' st k => let ⟨⟨old, he⟩, hi, hne⟩ := st; ⟨⟨old, k e (by simp) _ he⟩, hi.at fun o q => k it (by simp) o q, hne⟩
  item := by
    intro X hP hw hK hc i pins s σ H E I hf st hg
    subst hP hw hK
    obtain ⟨⟨old, he⟩, hit, hne⟩ := st
    obtain ⟨xs, x, hq, hx⟩ := hg
    obtain ⟨its, rv, p, hz⟩ := I.tuple hq
    obtain ⟨u, hu, ru⟩ := rv.get hx
    have hel : e < s.heap.objs.size := Heap.lt_size he
    have hil : it < s.heap.objs.size := by obtain ⟨_, q, _⟩ := hit; exact Heap.lt_size q
    have nai : a ≠ it := fun z => by
      obtain ⟨o, ho, hcl, _⟩ := hit
      obtain ⟨o', ho', hcl', _⟩ := p
      rw [z, ho] at ho'
      cases ho'
      rw [hcl] at hcl'
      exact absurd hcl' (by decide)
    have nea : e ≠ a := fun z => by
      obtain ⟨o', ho', hcl', _⟩ := p
      rw [← z, he] at ho'
      cases ho'
      simp at hcl'
    have hlt : i < its.toArray.size := by
      have := (List.getElem?_eq_some_iff.mp hu).1
      simpa using this
    refine wpAny_pyNext_enum_itemC (Draws.tuple (prog := X.prog) (w := X.w) (A := X.A.in1) (I.ok.hd hc) it a nai its.toArray) he ⟨hit, p⟩ hlt hne (by simp [hne, nea]) fun y h' tk hP ho hst' hT hsz hk => ?_
    have ey : y = u := by
      have h1 : its.toArray[i]? = some y := hP
      have h2 : its.toArray[i]? = some u := by simpa using hu
      rw [h2] at h1
      exact (Option.some.inj h1).symm
    subst ey
    refine ⟨_, rfl, wpAny_letOwnedTupleGo_enum (s := { s with heap := h', toks := tk + 1 }) ho fun h'' he' sb => ?_⟩
    have hT2 : h''.get? s.heap.objs.size = some { cls := .type "tuple", data := .seq #[.int (k₀ + (i : Int)) tk, y] } := (sb.2 _ (Nat.ne_of_gt hel)).trans hT
    have new : ObjOk X.prog X.w (upd H s.heap.objs.size (.tup [.int (k₀ + (i : Nat)), x])) h'' s.heap.objs.size (.tup [.int (k₀ + (i : Nat)), x]) :=
      ⟨by show 2 ≤ sizeLine; decide, [.int (k₀ + (i : Int)) tk, y], .cons ⟨_, rfl⟩ (.cons ru .nil), ⟨_, hT2, rfl, _, rfl⟩⟩
    have I1 : Inv X pins σ (upd H s.heap.objs.size (.tup [.int (k₀ + (i : Nat)), x])) { s with heap := h'', toks := tk + 1 } :=
      I.turnedNew (ch := [e, it]) (fun b ob hb q => (sb.2 b (fun z => hb (by simp [z]))).trans (hk b ob (fun z => hb (by simp [z])) (fun z => hb (by simp [z])) q)) hf (Nat.le_refl _) new
    refine ⟨.ref s.heap.objs.size, _, I1, rfl, ⟨_, x, rfl, I.hok.fresh (Nat.le_refl _), rfl, fun ys hy => by rw [I.tuple_inj hy hq]; exact hx⟩, ⟨⟨y, ?_⟩, hst'.1.at fun o q => (sb.2 it (Ne.symm hne)).trans q, hne⟩, fun b hb => ?_⟩
    · have e1 : k₀ + ((i + 1 : Nat) : Int) = k₀ + (i : Int) + 1 := by omega
      rw [e1]; exact he'
    · have hb' : b < s.heap.objs.size := by
        have e' : b = e ∨ b = it := by simpa using hb
        rcases e' with z | z
        · rw [z]; exact hel
        · rw [z]; exact hil
      rw [upd_ne (Nat.ne_of_lt hb')]
      exact (hf b hb).1
  done := by
    intro X hP hw hK hc i pins s σ H E I hf st hg
    subst hP hw hK
    obtain ⟨⟨old, he⟩, hit, hne⟩ := st
    obtain ⟨xs, hq, hx⟩ := hg
    obtain ⟨its, rv, p, hz⟩ := I.tuple hq
    obtain ⟨f0, f1, f2, f3, f4, f5⟩ := hf it (by simp)
    have hl := rv.length
    have nai : a ≠ it := fun z => by
      obtain ⟨o, ho, hcl, _⟩ := hit
      obtain ⟨o', ho', hcl', _⟩ := p
      rw [z, ho] at ho'
      cases ho'
      rw [hcl] at hcl'
      exact absurd hcl' (by decide)
    have D : Draws X.prog X.w X.A.in1 it [it, a] i (fun _ _ => True) (fun j h => j = i ∧ h.IsTupleIter it a i ∧ h.IsTuple a its.toArray) := {
      live := fun _ _ st => let ⟨o, ho, _⟩ := st.2.1; ⟨o, ho⟩
      frame := fun _ _ _ st hk => ⟨st.1, st.2.1.at fun o e => hk it (by simp) o e, st.2.2.at fun o e => hk a (by simp) o e⟩
      item := fun j s Q E hi st hQ => absurd st.1 (Nat.ne_of_lt hi)
      done := fun s Q E st hE => wpAny_nextOf_tuple_end (I.ok.hd hc) st.2.1 st.2.2 (by simp; omega) hE }
    exact wpAny_pyNext_enum_endD D he ⟨rfl, hit, p⟩ fun h' eb => ⟨rfl, I.turned (t' := s.toks) (fun b o hb q => eb b o hb q) f0 f1 f3 f4 f5⟩
  self := fun A i s Q E st h => let ⟨⟨_, he⟩, _⟩ := st; wpAny_pyIter_enum he h
def iEnumT (K : PySem.W.Frag) (ta : TA) : TI := fun σ H R => ta σ H fun vs H1 => ∃ a xs, vs = [.ref a] ∧ SqT K H1 a xs ∧ R (IteT K a 0) H1
/-- enumerate(t) -/
theorem pi_enumT {X : Cx} {e : Expr} {ta : TA} {p pos tpos : Pos} {elts : List Expr} {kk : Nat} (hg : Gl X "enumerate") (hm : X.mg "enumerate" = none) (ha : PA X [e] ta) (hs : starEach [e] X.env = [(false, eval e X.env)] := by rfl) :
    PI X (.Tuple elts kk tpos) (.Call (.Name "enumerate" p) [e] [] pos) (iEnumT X.K ta) := by
  refine ⟨fun pins s σ H R I h => ?_⟩
  refine Call_ (ld_blt I hg hm boot_enumerate (PyProof.Rows.callWith_type1 (thn (ha.run pos pins s σ H _ I h) fun us s1 ⟨vs, H1, I1, r1, q1⟩ => ?_) hs rfl))
  obtain ⟨a, xs, ex, hq, q⟩ := q1
  subst ex
  obtain ⟨u, rfl, r⟩ := vals1 r1
  cases (show u = Value.ref a from r)
  obtain ⟨its, rv, p', hz⟩ := I1.tuple hq
  refine enum_begins1 (begins_tuple a its.toArray) p' fun h' he hit hsz hk => wpAny_pyIter_enum he ?_
  have I3 : Inv X pins σ H1 { s1 with heap := h' } := I1.kept (t' := s1.toks) hk
  refine ⟨s1.heap.objs.size + 1, [s1.heap.objs.size + 1, s1.heap.objs.size], _, _, H1, rfl, I3, turn_enumT 0 a (s1.heap.objs.size + 1) s1.heap.objs.size, ⟨⟨.none, he⟩, ⟨_, hit, rfl, rfl⟩, Nat.succ_ne_self _⟩, fun b hb => ?_, q⟩
  have e' : b = s1.heap.objs.size + 1 ∨ b = s1.heap.objs.size := by simpa using hb
  have hle : s1.heap.objs.size ≤ b := by
    rcases e' with z | z
    · rw [z]; exact Nat.le_add_right _ _
    · rw [z]; exact Nat.le_refl _
  exact I1.fpOk hle (I1.hok.fresh hle)
/-- enumerate(t, start=k) -/
def iEnumK (K : PySem.W.Frag) (ta tk : TA) : TI := fun σ H R => ta σ H fun vs H1 => tk σ H1 fun ks H2 => ∃ a xs k, vs = [.ref a] ∧ ks = [.int k] ∧ -(2 ^ 63) ≤ k ∧ k < 2 ^ 63 ∧ SqT K H2 a xs ∧ R (IteT K a k) H2
theorem evalArgs_kwT {M : Model} {A : Around} {Ex : Value → Shared → Prop} {s : Shared} {env : Env} {pos : Pos} {T : String} {first : List Value} {Q : Value → Shared → Prop} {e : Expr} {rest : List Expr} {kws : List Keyword} (hall : (backToKw pos (keywordEach kws env)).all (·.1.isSome) = true)
    (h : wpAny M A (spliced (backTo pos (starEach (e :: rest) env))) (fun vs s₁ => wpAny M A (evalAll ((backToKw pos (keywordEach kws env)).map (·.2)))
      (fun ks s₂ => wpAny M A (call (.type T) (first ++ vs) (((backToKw pos (keywordEach kws env)).filterMap (·.1)).zip ks)) Q Ex s₂) Ex s₁) Ex s)
    (hplain : ((backTo pos (starEach (e :: rest) env)).any (·.1) || (backToKw pos (keywordEach kws env)).any (·.1.isNone)) = false := by rfl) (he : starEach (e :: rest) env = (false, eval e env) :: starEach rest env := by rfl) :
    wpAny M A (callWith pos (.type T) first (backTo pos (starEach (e :: rest) env)) (backToKw pos (keywordEach kws env))) Q Ex s :=
  PySem.W.callWith_of (P := fun _ => True) hplain (fun h _ => ⟨.machine, .inr (.inl rfl), .of_pure rfl⟩) (evalArgs_kw2 hall (wpAny_mono h (fun _ _ z => wpAny_mono z (fun _ _ z => ⟨trivial, z⟩) fun _ _ e => e) fun _ _ e => e) he)
theorem pi_enumK {X : Cx} {e e2 : Expr} {ta tk : TA} {p pos tpos kpos : Pos} {elts : List Expr} {kk : Nat} (hg : Gl X "enumerate") (hm : X.mg "enumerate" = none) (ha : PA X [e] ta) (hk : PK X [⟨some "start", e2, kpos⟩] tk) (hs : starEach [e] X.env = [(false, eval e X.env)] := by rfl) :
    PI X (.Tuple elts kk tpos) (.Call (.Name "enumerate" p) [e] [⟨some "start", e2, kpos⟩] pos) (iEnumK X.K ta tk) := by
  refine ⟨fun pins s σ H R I h => ?_⟩
  refine wpAny_Call_Name_kw (ld_blt I hg hm boot_enumerate ?_)
  refine evalArgs_kwT rfl (thn (ha.run pos pins s σ H _ I h) fun us s1 ⟨vs, H1, I1, r1, q1⟩ => thn (hk.run pos pins s1 σ H1 _ I1 q1) fun ws s2 ⟨zs, H2, I2, r2, q2⟩ => ?_) (by rw [hs] <;> rfl) hs
  obtain ⟨a, xs, k, ex, ez, k0, k1, hq, q⟩ := q2
  subst ex ez
  obtain ⟨u, rfl, r⟩ := vals1 r1
  cases (show u = Value.ref a from r)
  obtain ⟨u2, rfl, r2'⟩ := vals1 r2
  obtain ⟨t, rfl⟩ := r2'
  obtain ⟨its, rv, p', hz⟩ := I2.tuple hq
  refine enum_begins_start (begins_tuple a its.toArray) p' k0 k1 fun h' he hit hsz hk => wpAny_pyIter_enum he ?_
  have I3 : Inv X pins σ H2 { s2 with heap := h' } := I2.kept (t' := s2.toks) hk
  refine ⟨s2.heap.objs.size + 1, [s2.heap.objs.size + 1, s2.heap.objs.size], _, _, H2, rfl, I3, turn_enumT k a (s2.heap.objs.size + 1) s2.heap.objs.size, ⟨⟨.none, ?_⟩, ⟨_, hit, rfl, rfl⟩, Nat.succ_ne_self _⟩, fun b hb => ?_, q⟩
  · have e0 : k + ((0 : Nat) : Int) = k := by omega
    rw [e0]
    exact he
  have e' : b = s2.heap.objs.size + 1 ∨ b = s2.heap.objs.size := by simpa using hb
  have hle : s2.heap.objs.size ≤ b := by
    rcases e' with z | z
    · rw [z]; exact Nat.le_add_right _ _
    · rw [z]; exact Nat.le_refl _
  exact I2.fpOk hle (I2.hok.fresh hle)
end Lw

set_option Elab.async false
set_option linter.all false
set_option maxRecDepth 100000
set_option maxHeartbeats 4000000
/-! a def's body keeps its promise; the law's end -/
namespace Lw
open PySem PySem.Spec PyProof.Rows L2 StX
section
variable {CX : CXT} {P : Program} {w : World} {K : PySem.W.Frag} {mg : Str → Option Value} {base : Heap} {k : Nat} {f : Addr} {x qual : Str} {params : Arguments} {body : List Stmt} {scope : Scope} {dvs : List V} {kws : List (Str × V)} {fd : FuncData} {N ps : List Str} {sp : Sp}
/-- the arguments bind by themselves: ds fill up -/
theorem fnG_of {ds : List Value} {dfl : List V} (F : FunD K x qual params body scope dvs kws f fd) (S : FnScope N ps scope) (hb : Binds K fd ps ds) (hd : Vals dfl ds) (len : ∀ vs H Q E, sp vs H Q E → vs.length = ps.length)
    (hbody : ∀ (cdv : Value) (A : Around) (outer : List Env) (s : Shared) (H : Hp) (vs : List V) (Q : VK) (E : XK), RoomG k (A.deeper (envOfC qual scope s.heap.objs.size f cdv)) → sp vs H Q E →
      ∃ t, PSs (cxOf CX P w K mg base N qual scope f cdv A outer s H E) body t ∧ t { nx := fun _ H' => Q .non H', rt := Q } (start N vs) H) : FnG P w K mg base CX (k + 1) f (fun vs H Q E => sp (vs ++ dfl) H Q E) := by
  obtain ⟨oc, od, dV, kV, doc, pm, an, cdv, ct, osl, rfl, lk, hcd, _, _⟩ := F.ex
  intro A outer s H us vs Q E hr e0 r hs
  have r2 : Vals (vs ++ dfl) (us ++ ds) := r.append hd
  have hl : (us ++ ds).length = ps.length := by rw [← r2.length]; exact len _ _ _ _ hs
  have KX : K.In s.heap := e0.mod.kin.keeps fun b o e => (e0.bs b o e).1
  refine run_bnd lk hcd S hr.room e0 (G := fun xs H2 => xs = vs ++ dfl ∧ H2 = H) (fun A' Ex Q' h => hb s us KX hl _ _ _ _ (h s H (vs ++ dfl) (us ++ ds) e0 Un.refl rfl (fun _ _ z => z) r2 (len _ _ _ _ hs) ⟨rfl, rfl⟩)) fun s2 H2 xs ⟨ex, eH⟩ hr' => ?_
  subst ex eH
  exact hbody cdv A outer s2 H2 _ Q E ⟨hr', hr.gd⟩ hs
/-- no defaults -/
theorem fnG_pl (F : FunD K x qual params body scope dvs kws f fd) (S : FnScope N ps scope) (hb : Binds K fd ps []) (len : ∀ vs H Q E, sp vs H Q E → vs.length = ps.length)
    (hbody : ∀ (cdv : Value) (A : Around) (outer : List Env) (s : Shared) (H : Hp) (vs : List V) (Q : VK) (E : XK), RoomG k (A.deeper (envOfC qual scope s.heap.objs.size f cdv)) → sp vs H Q E →
      ∃ t, PSs (cxOf CX P w K mg base N qual scope f cdv A outer s H E) body t ∧ t { nx := fun _ H' => Q .non H', rt := Q } (start N vs) H) : FnG P w K mg base CX (k + 1) f sp :=
  (fnG_of F S hb .nil len hbody).imp fun vs H Q E h => by rw [List.append_nil]; exact h
/-- def f(a, .., *v) -/
theorem fnG_star {pv : Str} (F : FunD K x qual params body scope [] kws f fd) (S : FnScope N (ps ++ [pv]) scope) (hCX : CXUp CX)
    (hb : ∀ (kV doc pm : Value) (an : Option Addr) (cdv ct : Value) (us rest : List Value), us.length = ps.length → bindArgs (PySem.W.fnOf x qual params body scope .none kV doc pm an cdv ct) ⟨us ++ rest, []⟩ = (newTuple rest >>= fun t => pure (ps.zip us ++ [(pv, t)])))
    (hbody : ∀ (cdv : Value) (A : Around) (outer : List Env) (s : Shared) (H : Hp) (vs : List V) (Q : VK) (E : XK), RoomG k (A.deeper (envOfC qual scope s.heap.objs.size f cdv)) → sp vs H Q E →
      ∃ t, PSs (cxOf CX P w K mg base N qual scope f cdv A outer s H E) body t ∧ t { nx := fun _ H' => Q .non H', rt := Q } (start N vs) H) :
    FnG P w K mg base CX (k + 1) f (fun vs H Q E => ∃ ws rest, vs = ws ++ rest ∧ ws.length = ps.length ∧ rest.length ≤ sizeLine ∧ ∀ p, H p = Option.none → sp (ws ++ [V.ref p]) (upd H p (.tup rest)) Q E) := by
  obtain ⟨oc, od, dV, kV, doc, pm, an, cdv, ct, osl, rfl, lk, hcd, hD, _⟩ := F.ex
  obtain rfl : dV = .none := by
    rcases hD with ⟨_, e⟩ | ⟨e, _⟩
    · exact e
    · exact absurd rfl e
  intro A outer s H us vs Q E hr e0 r hsp
  obtain ⟨ws, rest, rfl, hl, hz, hq⟩ := hsp
  obtain ⟨u1, u2, rfl, r1, r2⟩ := vals_split r
  have hn : H s.heap.objs.size = Option.none := e0.hok.fresh (Nat.le_refl _)
  have hl1 : u1.length = ps.length := by rw [← r1.length]; exact hl
  have hl2 : u2.length ≤ sizeLine := by rw [← r2.length]; exact hz
  refine run_bnd lk hcd S hr.room e0 (G := fun xs H2 => ∃ p, H p = Option.none ∧ xs = ws ++ [V.ref p] ∧ H2 = upd H p (.tup rest)) (fun A' Ex Q' h => ?_) fun s2 H2 xs ⟨p, hp, ex, eH⟩ hr' => ?_
  · rw [hb _ _ _ _ _ _ u1 u2 hl1]
    refine wpAny_bind (wpAny_newTuple (wpAny_pure ?_) hl2)
    have z := h _ _ (ws ++ [V.ref s.heap.objs.size]) (u1 ++ [Value.ref s.heap.objs.size]) (env0_laid (u := .tup rest) (o := { cls := .type "tuple", data := .seq u2.toArray }) e0 ⟨hz, u2, r2, ⟨_, Heap.get?_push_size _ rfl, rfl, _, rfl⟩⟩) (un_laid hn) rfl
      (fun e s' => hCX outer s H _ _ E e s' (un_laid (o := { cls := .type "tuple", data := .seq u2.toArray }) (u := .tup rest) hn) (fun b o q => Heap.get?_push_of_some _ q) rfl) (r1.append (.cons rfl .nil)) (by rw [List.length_append, List.length_append, hl] <;> rfl) ⟨_, hn, rfl, rfl⟩
    rw [List.zip_append hl1.symm] at z
    exact z
  · subst ex eH
    exact hbody cdv A outer s2 _ _ Q E ⟨hr', hr.gd⟩ (hq p hp)
end
/-! the law's call: the heap ahead of it tracks nothing but the script -/
section
variable {P : Program} {w : World} {K : PySem.W.Frag} {mg mb : Str → Option Value} {k : Nat} {fa a : Addr} {sp : Sp} {s₁ : Shared} {vs : List Value} {ns : List Int}
theorem end_core {H : Hp} (KX : K.In s₁.heap) (hns : s₁.heap.Ns mainGlobals mg) (hb : s₁.heap.Ns builtinsNs mb) (hbb : ∀ x : Str, x ≠ "__name__" → mb x = bootBuiltins x) (hlim : s₁.heap.NoLimit) (hg : s₁.gens = #[])
    (ha : s₁.heap.get? a = some { cls := .type "list", data := .seq vs.toArray }) (hr : Room k callerA) (F : ∀ base : Heap, K.In base → base.Ns mainGlobals mg → FnG P w K mg base CX0 k fa sp)
    (hsp : sp [.ref a] H (fun v _ => v = .bl true) fun _ _ _ => False) (hO : Only H) (hok : HOk P w H s₁.heap) (hA : ∀ b, H b ≠ none → b = a) (hK : H a ≠ none → K.lookup a = none) :
    codeAny (model P w) callerA (.call (.ref fa) ⟨[.ref a], []⟩) (fun r s' => r = .ok (.ret (.bool true)) ∧ OldK s₁.heap s'.heap ∧ s'.os = s₁.os ∧ AllBare s'.gens) s₁ := by
  have untr : ∀ {b : Addr} {o : Obj}, s₁.heap.get? b = some o → (b = a → False) → H b = none := fun {b o} e n => by
    cases q : H b with
    | none => rfl
    | some u => exact (n (hA b (by rw [q]; exact fun z => nomatch z))).elim
  have ns' : ∀ {b : Addr} {m : Str → Option Value}, s₁.heap.Ns b m → (hidT s₁.heap H).Ns b m := fun {b m} ⟨o, es, ep, e, d, r⟩ => ⟨o, es, ep, hidT_get e (untr e fun z => by
    rw [z, ha] at e
    cases e
    cases d), d, r⟩
  have kb : K.In (hidT s₁.heap H) := fun b o e => hidT_get (KX b o e) (by
    cases q : H b with
    | none => rfl
    | some u =>
      have eb := hA b (by rw [q]; exact fun z => nomatch z)
      rw [← eb] at hK
      have z := hK (by rw [q]; exact fun z => nomatch z)
      rw [z] at e
      cases e)
  have mod : Mod K mg (hidT s₁.heap H) := ⟨kb, ns' hns, ⟨mb, ns' hb, hbb⟩, let ⟨mc, h1, h2⟩ := hlim; ⟨mc, ns' h1, h2⟩⟩
  have e0 : Env0 P w K mg (hidT s₁.heap H) callerA [] s₁ H := ⟨rfl, mod, fun b o e => of_hidT e, Nat.le_of_eq (hidT_size _ _), trivial, fun b hb => absurd hb (by simp [frs]), hok, AllBare.of_eq hg⟩
  refine codeAny_mono (F _ kb (ns' hns) callerA [] s₁ H [.ref a] [.ref a] _ _ ⟨hr, rfl⟩ e0 (.cons rfl .nil) hsp) fun r s' h => ?_
  match r, h with
  | .error e, h => exact False.elim h
  | .ok .next, h => exact False.elim h
  | .ok .brk, h => exact False.elim h
  | .ok .cont, h => exact False.elim h
  | .ok (.ret u), h =>
    obtain ⟨v, H', os, bare, un, hok', r', q⟩ := h
    cases (show v = .bl true from q)
    cases (show u = Value.bool true from r')
    refine ⟨rfl, OldK.of_keep fun b o e => ?_, os, bare⟩
    rcases hO b with z | ⟨ob, xs, z⟩
    · exact un.keep b o e z (fun y => absurd y (by simp [frs])) (fun y => absurd y (by simp))
    · obtain ⟨e1, _⟩ := hok b _ z
      obtain ⟨e2, _⟩ := hok' b _ (un.frzs b ob _ z)
      rw [e] at e1
      cases e1
      exact e2
theorem end_call (KX : K.In s₁.heap) (hns : s₁.heap.Ns mainGlobals mg) (hb : s₁.heap.Ns builtinsNs mb) (hbb : ∀ x : Str, x ≠ "__name__" → mb x = bootBuiltins x) (hlim : s₁.heap.NoLimit) (hg : s₁.gens = #[])
    (ha : s₁.heap.get? a = some { cls := .type "list", data := .seq vs.toArray }) (hi : IntsAre vs ns) (hl : ns.length ≤ sizeLine) (hr : Room k callerA) (F : ∀ base : Heap, K.In base → base.Ns mainGlobals mg → FnG P w K mg base CX0 k fa sp)
    (hsp : ∀ H : Hp, SqL K H a (ns.map V.int) → sp [.ref a] H (fun v _ => v = .bl true) fun _ _ _ => False) :
    codeAny (model P w) callerA (.call (.ref fa) ⟨[.ref a], []⟩) (fun r s' => r = .ok (.ret (.bool true)) ∧ OldK s₁.heap s'.heap ∧ s'.os = s₁.os ∧ AllBare s'.gens) s₁ := by
  have rv := vals_ints hi
  have lenV := hi.length
  cases hk : K.lookup a with
  | some o =>
    have e := KX a o hk
    rw [ha] at e
    cases e
    exact end_core (H := fun _ => none) KX hns hb hbb hlim hg ha hr F (hsp _ (.inr ⟨_, vs.toArray, _, hk, rfl, rfl, rfl, by rw [List.size_toArray, lenV]; exact hl, by simpa using rv⟩)) (fun _ => .inl rfl) (fun b u z => nomatch z) (fun b z => absurd rfl z) fun z => absurd rfl z
  | none =>
    have e1 : ∀ b, b ≠ a → upd (fun _ => none) a (.frz { cls := .type "list", data := .seq vs.toArray } (.lst (ns.map V.int))) b = none := fun b h => upd_ne h
    refine end_core (H := upd (fun _ => none) a (.frz { cls := .type "list", data := .seq vs.toArray } (.lst (ns.map V.int)))) KX hns hb hbb hlim hg ha hr F (hsp _ (.inl (.inr ⟨_, upd_same⟩))) (fun b => ?_) (fun b u z => ?_) (fun b z => ?_) fun _ => hk
    · by_cases h : b = a
      · exact .inr ⟨_, _, by rw [h]; exact upd_same⟩
      · exact .inl (e1 b h)
    · by_cases h : b = a
      · subst h
        rw [upd_same] at z
        cases z
        exact ⟨ha, by rw [List.length_map]; exact hl, vs, _, rv, ha⟩
      · rw [e1 b h] at z
        cases z
    · by_cases h : b = a
      · exact h
      · exact absurd (e1 b h) z
end
theorem end_law {l : PySem.W.OpenLaw} {n k : Nat} {q : Program} {loose : List Str} {XP : (Str → Option Value) → Heap → Prop} {YP : World → Heap → Prop} {d : DefRec} (hn : l.most = some n) (hn2 : n ≤ sizeLine) (hdf : d.params.defaults = []) (hr : Room k callerA)
    (F : ∀ (w : World) (mg : Str → Option Value) (fa : Addr) (h : Heap), YP w h → h.Ns mainGlobals mg → mg d.name = some (.ref fa) →
      ∃ (K : PySem.W.Frag) (sp : Sp), K.In h ∧ (∀ (H : Hp) (a : Addr) (ns : List Int), ns.length ≤ n → SqL K H a (ns.map V.int) → sp [.ref a] H (fun v _ => v = .bl true) fun _ _ _ => False) ∧
        ∀ base : Heap, K.In base → base.Ns mainGlobals mg → FnG l.prog w K mg base CX0 k fa sp) :
    PySem.W.WalkO q loose XP YP l.row.toRowW d [] (fun f vs => PySem.call f vs) := by
  refine Att.attach_call hn hdf fun w s₀ s₁ mg mb fa o pm cd doc a vs ns G Y ho hd hcd hmg hobj hints hlen hg => ?_
  obtain ⟨K, sp, KX, hsp, hF⟩ := F w mg fa _ Y G.T.g hmg
  exact end_call KX G.T.g G.T.b G.T.builtins G.T.nolimit hg hobj hints (Nat.le_trans hlen hn2) hr hF fun H hS => hsp H a ns hlen hS
end Lw

set_option Elab.async false
set_option linter.all false
set_option maxRecDepth 100000
/-! facts of the head, told as what the rules ask -/
namespace Lw
open PySem PySem.Spec PyProof.Rows L2 He
variable {K : Frag}
def bEqOwn (C : Str) (K : Frag) : Bool := eqO (PySem.W.findIn K (.ref (ga K C)) "__eq__") (some (some (.ref (ma K (ga K C) "__eq__")))) && (PySem.W.isFn K (.ref (ma K (ga K C) "__eq__")) &&
  (eqO (PySem.W.findIn K (.ref (ga K C)) "__ne__") (some (some (.builtin "object.__ne__"))) && decide (PySem.W.mroIn K (ga K C) (.type "object") = some true)))
theorem bEqOwn_ok {C : Str} (h : bEqOwn C K = true) : EqOwn K (ga K C) (ma K (ga K C) "__eq__") := by
  obtain ⟨h1, h⟩ := ba h
  obtain ⟨h2, h⟩ := ba h
  obtain ⟨h3, h4⟩ := ba h
  exact ⟨eqO_ok h1, h2, eqO_ok h3, of_decide_eq_true h4⟩
def bBin (C : Str) (op : Operator) (K : Frag) : Bool := PySem.W.selfFirst K (ga K C) && (eqO (PySem.W.findIn K (.ref (ga K C)) (PySem.dunder op.info.2)) (some (some (.ref (ma K (ga K C) (PySem.dunder op.info.2))))) &&
  (PySem.W.isFn K (.ref (ma K (ga K C) (PySem.dunder op.info.2))) && eqO (PySem.W.findIn K (.ref (ga K C)) (dunderR op.info.2)) (some none)))
theorem bBin_ok {C : Str} {op : Operator} {n : Str} (e : PySem.dunder op.info.2 = n) (h : bBin C op K = true) : BinOwn K op (ga K C) (ma K (ga K C) n) := by
  subst e
  obtain ⟨h1, h⟩ := ba h
  obtain ⟨h2, h⟩ := ba h
  obtain ⟨h3, h4⟩ := ba h
  exact ⟨h1, eqO_ok h2, h3, eqO_ok h4⟩
structure BinTy (K : Frag) (op : Operator) (C : Addr) (T : String) : Prop where
  h1 : ∃ fo, PySem.W.findIn K (.type T) (PySem.dunder op.info.2) = some fo
  h2 : ∃ ro, PySem.W.findIn K (.type T) (dunderR op.info.2) = some ro
  sub : PySem.W.subIn K (.type T) (.ref C) = some false
def bBinT (C : Str) (op : Operator) (T : String) (K : Frag) : Bool := (PySem.W.findIn K (.type T) (PySem.dunder op.info.2)).isSome && ((PySem.W.findIn K (.type T) (dunderR op.info.2)).isSome && decide (PySem.W.subIn K (.type T) (.ref (ga K C)) = some false))
theorem bBinT_ok {C : Str} {op : Operator} {T : String} (h : bBinT C op T K = true) : BinTy K op (ga K C) T := by
  obtain ⟨h1, h⟩ := ba h
  obtain ⟨h2, h3⟩ := ba h
  exact ⟨Option.isSome_iff_exists.mp h1, Option.isSome_iff_exists.mp h2, of_decide_eq_true h3⟩
def bNoSub (T : String) (C : Str) (K : Frag) : Bool := decide (PySem.W.subIn K (.type T) (.ref (ga K C)) = some false)
/-- what isinstance(o, C) asks of the class of o -/
structure TypOwn (K : Frag) (C : Addr) : Prop where
  cl : Cls K C
  ha : PySem.W.findIn K (.ref C) "__class__" = some (some (.builtin "object.__class__"))
  hn : PySem.W.specialIn K (.builtin "object.__class__") "__get__" = some (some (.builtin "getset_descriptor.__get__"))
  htk : PySem.W.takesIn K (.builtin "object.__class__") = some true
  hm : PySem.W.mroIn K C (.type "object") = some true
  self : PySem.W.kitOne K (.ref C) (.ref C) = some true
theorem TypOwn.ty {C : Addr} {H : Hp} {a dx : Addr} {fs : List (Str × V)} (t : TypOwn K C) (e : H a = some (.ins C dx fs)) : TyX K H (.ref a) (.ref C) := .base (.ins e t.cl t.ha t.hn t.htk t.hm)
theorem bCls_ok {C : Str} (h : bCls C K = true) : Cls K (ga K C) := by
  obtain ⟨h1, h⟩ := ba (show (PySem.W.plainGet K (ga K C) Str.empty && (PySem.W.hasDictIn K (ga K C) && (PySem.W.plainOver K (ga K C) && eqO (PySem.W.findIn K (.ref (ga K C)) "__setattr__") (some (some (.builtin "object.__setattr__")))))) = true from h)
  obtain ⟨h2, h⟩ := ba h
  obtain ⟨h3, h4⟩ := ba h
  exact ⟨h1, h2, h3, eqO_ok h4⟩
def bTyp (C : Str) (K : Frag) : Bool := bCls C K && (eqO (PySem.W.findIn K (.ref (ga K C)) "__class__") (some (some (.builtin "object.__class__"))) && (eqO (PySem.W.specialIn K (.builtin "object.__class__") "__get__") (some (some (.builtin "getset_descriptor.__get__"))) &&
  (decide (PySem.W.takesIn K (.builtin "object.__class__") = some true) && (decide (PySem.W.mroIn K (ga K C) (.type "object") = some true) && decide (PySem.W.kitOne K (.ref (ga K C)) (.ref (ga K C)) = some true)))))
theorem bTyp_ok {C : Str} (h : bTyp C K = true) : TypOwn K (ga K C) := by
  obtain ⟨h1, h⟩ := ba h
  obtain ⟨h2, h⟩ := ba h
  obtain ⟨h3, h⟩ := ba h
  obtain ⟨h4, h⟩ := ba h
  obtain ⟨h5, h6⟩ := ba h
  exact ⟨bCls_ok h1, eqO_ok h2, eqO_ok h3, of_decide_eq_true h4, of_decide_eq_true h5, of_decide_eq_true h6⟩
theorem bMeth_ok {C m : Str} (h : bMeth C m K = true) : Meth K (ga K C) m (ma K (ga K C) m) := by
  obtain ⟨h1, h⟩ := ba (show (eqO (PySem.W.findIn K (.ref (ga K C)) m) (some (some (.ref (ma K (ga K C) m)))) && (PySem.W.isFn K (.ref (ma K (ga K C) m)) && PySem.W.keepIn K (.ref (ma K (ga K C) m)))) = true from h)
  obtain ⟨h2, h3⟩ := ba h
  exact ⟨eqO_ok h1, h2, h3⟩
theorem bMkr_ok {C : Str} (h : bMkr C K = true) : Mk K (ga K C) (ma K (ga K C) "__init__") := by
  obtain ⟨h1, h⟩ := ba (show (PySem.W.makesIn K (ga K C) && (eqO (PySem.W.findIn K (.ref (ga K C)) "__init__") (some (some (.ref (ma K (ga K C) "__init__")))) && (PySem.W.isFn K (.ref (ma K (ga K C) "__init__")) && PySem.W.keepIn K (.ref (ga K C))))) = true from h)
  obtain ⟨h2, h⟩ := ba h
  obtain ⟨h3, h4⟩ := ba h
  exact ⟨h1, eqO_ok h2, h3, h4⟩
theorem bProp_ok {C m : Str} (h : bProp C m K = true) : PropOf K (ga K C) m (ma K (ga K C) m) (pg K C m) := by
  obtain ⟨h1, h⟩ := ba h
  obtain ⟨h2, h⟩ := ba h
  obtain ⟨h3, h4⟩ := ba h
  refine ⟨eqO_ok h1, eqO_ok h2, of_decide_eq_true h3, ?_⟩
  unfold pg He5.wf
  split at h4
  · rename_i f r e
    exact ⟨r, by rw [e]⟩
  · cases h4
theorem fnIn_of {x qual : Str} {params : Arguments} {body : List Stmt} {scope : Scope} {dvs : List V} {kws : List (Str × V)} {f : Addr} {fd : FuncData} (F : FunD K x qual params body scope dvs kws f fd) : PySem.W.fnIn K f = true := by
  obtain ⟨oc, od, dV, kV, doc, pm, an, cdv, ct, osl, rfl, lk, _⟩ := F.ex
  unfold PySem.W.fnIn
  rw [lk]
end Lw

set_option Elab.async false
set_option linter.all false
set_option maxRecDepth 100000
/-! promises of one to six values -/
namespace Lw
open PySem PySem.Spec PyProof.Rows L2 He
def sp1 (B : V → Hp → VK → XK → Prop) : Sp := fun vs H Q E => ∃ a, vs = [a] ∧ B a H Q E
def sp2 (B : V → V → Hp → VK → XK → Prop) : Sp := fun vs H Q E => ∃ a b, vs = [a, b] ∧ B a b H Q E
def sp3 (B : V → V → V → Hp → VK → XK → Prop) : Sp := fun vs H Q E => ∃ a b c, vs = [a, b, c] ∧ B a b c H Q E
def sp4 (B : V → V → V → V → Hp → VK → XK → Prop) : Sp := fun vs H Q E => ∃ a b c d, vs = [a, b, c, d] ∧ B a b c d H Q E
def sp5 (B : V → V → V → V → V → Hp → VK → XK → Prop) : Sp := fun vs H Q E => ∃ a b c d e, vs = [a, b, c, d, e] ∧ B a b c d e H Q E
variable {vs : List V} {H : Hp} {Q : VK} {E : XK}
theorem sp1_len {B} : ∀ (vs : List V) (H : Hp) (Q : VK) (E : XK), sp1 B vs H Q E → vs.length = 1 := fun _ _ _ _ ⟨_, e, _⟩ => by rw [e]; rfl
theorem sp2_len {B} : ∀ (vs : List V) (H : Hp) (Q : VK) (E : XK), sp2 B vs H Q E → vs.length = 2 := fun _ _ _ _ ⟨_, _, e, _⟩ => by rw [e]; rfl
theorem sp3_len {B} : ∀ (vs : List V) (H : Hp) (Q : VK) (E : XK), sp3 B vs H Q E → vs.length = 3 := fun _ _ _ _ ⟨_, _, _, e, _⟩ => by rw [e]; rfl
theorem sp4_len {B} : ∀ (vs : List V) (H : Hp) (Q : VK) (E : XK), sp4 B vs H Q E → vs.length = 4 := fun _ _ _ _ ⟨_, _, _, _, e, _⟩ => by rw [e]; rfl
theorem sp5_len {B} : ∀ (vs : List V) (H : Hp) (Q : VK) (E : XK), sp5 B vs H Q E → vs.length = 5 := fun _ _ _ _ ⟨_, _, _, _, _, e, _⟩ => by rw [e]; rfl
theorem RoomG.units1 {k : Nat} {A : Around} (r : RoomG k A) : A.units + 65 < cLine := by have := r.room.un; omega
end Lw

set_option Elab.async false
set_option linter.all false
set_option maxRecDepth 100000
set_option maxHeartbeats 4000000
/-! what readings ask, over data -/
namespace Lw
open PySem PySem.Spec PyProof.Rows L2 He StX
open En (enc)
section
variable {X : Cx} {CX : CXT} {k : Nat} {f C : Addr} {sp : Sp} {E : XK} {pins : List (Addr × Obj)} {σ : L2.St} {H : Hp} {s : Shared} {K : PySem.W.Frag}
/-- repr of data -/
def rReprD (K : PySem.W.Frag) : List V → Hp → VK → Prop := fun xs H Q => ∃ x d, xs = [x] ∧ Dp K H x d ∧ d.showable = true ∧ d.shown.length ≤ sizeLine ∧ d.depth ≤ 60 ∧ Q (.str d.shown) H
mutual
theorem Dp.noDict {H : Hp} : ∀ (d : PyData) (v : V), Dp K H v d → d.hasDict = false
  | .none, _, _ => by simp [PyData.hasDict]
  | .bool _, _, _ => by simp [PyData.hasDict]
  | .int _, _, _ => by simp [PyData.hasDict]
  | .str _, _, _ => by simp [PyData.hasDict]
  | .list ds, _, h => by
    cases h with
    | lst _ ha => simp only [PyData.hasDict]; exact DpAll.noDict ds _ ha
  | .tuple ds, _, h => by
    cases h with
    | tup _ ha => simp only [PyData.hasDict]; exact DpAll.noDict ds _ ha
theorem DpAll.noDict {H : Hp} : ∀ (ds : List PyData) (vs : List V), DpAll K H vs ds → PyData.hasDictAll ds = false
  | [], _, _ => by simp [PyData.hasDictAll]
  | d :: ds, _, h => by
    cases h with
    | cons h t => simp only [PyData.hasDictAll, Dp.noDict d _ h, DpAll.noDict ds _ t, Bool.or_self]
end
theorem call_reprD (hK : X.K = K) (hg : X.A.guards = some []) (hu : X.A.units + 64 < cLine) : CallR X (.builtin "repr") (rReprD K) := by
  subst hK
  intro pins s σ H xs us Q I r h
  obtain ⟨x, d, rfl, hd, hs, hz, hdp, q⟩ := h
  obtain ⟨u, rfl, ru⟩ := vals1 r
  obtain ⟨as, hr⟩ := Dp.reads I d x u hd ru
  have nd := Dp.noDict d x hd
  cases hd with
  | lst hsq ha =>
    cases (show u = Value.ref _ from ru)
    exact repr_of_reads' hr hs (fun z => by rw [nd] at z; cases z) hg (by omega) (fun _ _ e => e) (fun h' t tk kp => ⟨.str _, H, I.kept (t' := tk) kp, ⟨_, rfl⟩, q⟩) hz
  | tup hsq ha =>
    cases (show u = Value.ref _ from ru)
    exact repr_of_reads' hr hs (fun z => by rw [nd] at z; cases z) hg (by omega) (fun _ _ e => e) (fun h' t tk kp => ⟨.str _, H, I.kept (t' := tk) kp, ⟨_, rfl⟩, q⟩) hz
  | int i =>
    obtain ⟨t, rfl⟩ := ru
    exact PySem.P.repr_of_int (of_decide_eq_true (by simpa [PyData.showable] using hs)) ⟨.str _, H, I.tok _, ⟨_, rfl⟩, q⟩
  | non =>
    cases (show u = Value.none from ru)
    exact PySem.P.repr_of_none ⟨.str _, H, I.tok _, ⟨_, rfl⟩, q⟩
  | bl b =>
    cases (show u = Value.bool b from ru)
    have e : (if b = true then Str.ofString "True" else Str.ofString "False") = (PyData.bool b).shown := by cases b <;> rfl
    exact PySem.P.repr_of_bool ⟨.str _, H, I.tok _, ⟨_, by rw [e]⟩, q⟩
  | str z =>
    obtain ⟨t, rfl⟩ := ru
    exact PySem.P.repr_of_str ⟨.str _, H, I.tok _, ⟨_, rfl⟩, q⟩ hz
theorem pg_tupK {es : List Expr} {kk : Nat} {t : TGs} {n : Nat} {pos : Pos} (hK : X.K = K) (hc : X.calm = true) (h : PGs X es t) (hn : (assignEach es X.env).length = n := by rfl) (hst : (assignEach es X.env).findIdx? (·.1) = none := by rfl) :
    PG X (.Tuple es kk pos) (gTup K n t) := hK ▸ pg_tup hc h hn hst
theorem pg_unlK {es : List Expr} {kk : Nat} {t : TGs} {n : Nat} {pos : Pos} (hK : X.K = K) (hc : X.calm = true) (h : PGs X es t) (hn : (assignEach es X.env).length = n := by rfl) (hst : (assignEach es X.env).findIdx? (·.1) = none := by rfl) :
    PG X (.Tuple es kk pos) (gUnl K n t) := hK ▸ pg_unl hc h hn hst
theorem op_ownB {op : Operator} {T : String} (B : BinOwn X.K op C f) (t : BinTy X.K op C T) (F : FnG X.prog X.w X.K X.mg X.base CX k f sp) (hr : RoomG k X.A) (hx : Passes CX X E) : OpR X (binaryOp op) (rOwnT X.K C T sp E) := by
  obtain ⟨fo, h1⟩ := t.h1
  obtain ⟨ro, h2⟩ := t.h2
  exact op_ownT B h1 h2 t.sub F hr hx
/-- the name of the type of data -/
def tyN : PyData → String
  | .none => "NoneType"
  | .bool _ => "bool"
  | .int _ => "int"
  | .str _ => "str"
  | .list _ => "list"
  | .tuple _ => "tuple"
  | .dict _ => "dict"
theorem Dx.tyOf {S : List Addr} {v : V} {d : PyData} (h : Dx S H v d) : TyOf K H v (.type (tyN d)) := by
  cases h with
  | non => exact .non
  | bl b => exact .bl b
  | int i => exact .int i
  | str x => exact .str x
  | lst _ e _ => exact .lst e
  | tup _ e _ => exact .tup e
/-- isinstance(x, T), x data -/
theorem rIsi_of {S : List Addr} {v : V} {d : PyData} {T : String} {b : Bool} {Q : VK} (h : Dx S H v d) (e : kitB (tyN d) T = some b) (q : Q (.bl b) H) : rIsi K [v, .ty T] H Q :=
  ⟨v, .ty T, .type (tyN d), .type T, b, rfl, .ty T, .base h.tyOf, kit_ty e, q⟩
def isIntD : PyData → Bool
  | .int _ => true
  | _ => false
def isBoolD : PyData → Bool
  | .bool _ => true
  | _ => false
def isTupD : PyData → Bool
  | .tuple _ => true
  | _ => false
theorem kit_int (d : PyData) : kitB (tyN d) "int" = some (isIntD d || isBoolD d) := by
  cases d with
  | none => exact (by decide +kernel : kitB "NoneType" "int" = some false)
  | bool _ => exact (by decide +kernel : kitB "bool" "int" = some true)
  | int _ => exact (by decide +kernel : kitB "int" "int" = some true)
  | str _ => exact (by decide +kernel : kitB "str" "int" = some false)
  | list _ => exact (by decide +kernel : kitB "list" "int" = some false)
  | tuple _ => exact (by decide +kernel : kitB "tuple" "int" = some false)
  | dict _ => exact (by decide +kernel : kitB "dict" "int" = some false)
theorem kit_bool (d : PyData) : kitB (tyN d) "bool" = some (isBoolD d) := by
  cases d with
  | none => exact (by decide +kernel : kitB "NoneType" "bool" = some false)
  | bool _ => exact (by decide +kernel : kitB "bool" "bool" = some true)
  | int _ => exact (by decide +kernel : kitB "int" "bool" = some false)
  | str _ => exact (by decide +kernel : kitB "str" "bool" = some false)
  | list _ => exact (by decide +kernel : kitB "list" "bool" = some false)
  | tuple _ => exact (by decide +kernel : kitB "tuple" "bool" = some false)
  | dict _ => exact (by decide +kernel : kitB "dict" "bool" = some false)
theorem kit_tuple (d : PyData) : kitB (tyN d) "tuple" = some (isTupD d) := by
  cases d with
  | none => exact (by decide +kernel : kitB "NoneType" "tuple" = some false)
  | bool _ => exact (by decide +kernel : kitB "bool" "tuple" = some false)
  | int _ => exact (by decide +kernel : kitB "int" "tuple" = some false)
  | str _ => exact (by decide +kernel : kitB "str" "tuple" = some false)
  | list _ => exact (by decide +kernel : kitB "list" "tuple" = some false)
  | tuple _ => exact (by decide +kernel : kitB "tuple" "tuple" = some true)
  | dict _ => exact (by decide +kernel : kitB "dict" "tuple" = some false)
/-- a tuple of two -/
theorem De.pair {α β : Type} [En α] [En β] {S : List Addr} {v : V} {p : α × β} (h : De S H v p) : ∃ a x y, v = .ref a ∧ a ∉ S ∧ H a = some (.tup [x, y]) ∧ De S H x p.1 ∧ De S H y p.2 := by
  cases h with
  | tup n e h =>
    cases h with
    | cons h1 t =>
      cases t with
      | cons h2 t =>
        cases t
        exact ⟨_, _, _, rfl, n, e, h1, h2⟩
theorem De.int {S : List Addr} {v : V} {i : Int} (h : De S H v i) : v = .int i := by cases h; rfl
theorem De.ints {S : List Addr} {v : V} {p : Int × Int} (h : De S H v p) : ∃ a, v = .ref a ∧ a ∉ S ∧ H a = some (.tup [.int p.1, .int p.2]) := by
  obtain ⟨a, x, y, e, n, h, hx, hy⟩ := h.pair
  rw [hx.int, hy.int] at h
  exact ⟨a, e, n, h⟩
theorem De.mk2 {S : List Addr} {a : Addr} {x y : Int} (n : a ∉ S) (h : H a = some (.tup [.int x, .int y])) : De S H (.ref a) ((x, y) : Int × Int) := .tup n h (.cons (.int x) (.cons (.int y) .nil))
theorem De.tu {α : Type} [En α] {S : List Addr} {v : V} {l : List α} (h : De S H v (Tu.mk l)) : ∃ a xs, v = .ref a ∧ a ∉ S ∧ H a = some (.tup xs) ∧ DeA S H xs l := by
  cases h with
  | tup n e h => exact ⟨_, _, rfl, n, e, h⟩
theorem De.ls {α : Type} [En α] {S : List Addr} {v : V} {l : List α} (h : De S H v l) : ∃ a xs, v = .ref a ∧ a ∉ S ∧ H a = some (.lst xs) ∧ DeA S H xs l := by
  cases h with
  | lst n e h => exact ⟨_, _, rfl, n, e, h⟩
theorem De.mkTu {α : Type} [En α] {S : List Addr} {a : Addr} {xs : List V} {l : List α} (n : a ∉ S) (e : H a = some (.tup xs)) (h : DeA S H xs l) : De S H (.ref a) (Tu.mk l) := .tup n e h
theorem De.mkLs {α : Type} [En α] {S : List Addr} {a : Addr} {xs : List V} {l : List α} (n : a ∉ S) (e : H a = some (.lst xs)) (h : DeA S H xs l) : De S H (.ref a) l := .lst n e h
theorem DeA.len {α : Type} [En α] {S : List Addr} {xs : List V} {l : List α} (h : DeA S H xs l) : xs.length = l.length := by
  have := h.length
  rw [List.length_map] at this
  exact this
theorem DeA.at {α : Type} [En α] {S : List Addr} {xs : List V} {l : List α} {i : Nat} {a : α} (h : DeA S H xs l) (e : l[i]? = some a) : ∃ v, xs[i]? = some v ∧ De S H v a :=
  h.getD (d := enc a) (by rw [List.getElem?_map, e]; rfl)
theorem DeA.of {α : Type} [En α] {S : List Addr} {xs : List V} {l : List α} {i : Nat} {v : V} (h : DeA S H xs l) (e : xs[i]? = some v) : ∃ a, l[i]? = some a ∧ De S H v a := by
  have hi : i < l.length := by
    have := (List.getElem?_eq_some_iff.mp e).1
    rw [h.len] at this
    exact this
  obtain ⟨d, h1, h2⟩ := DxA.get h e
  rw [List.getElem?_map, List.getElem?_eq_getElem hi] at h1
  cases h1
  exact ⟨_, List.getElem?_eq_getElem hi, h2⟩
/-- == of data -/
theorem rEqD_of {α : Type} [Py α] [DecidableEq α] {S S' : List Addr} {x y : V} {a b : α} {Q : VK} (hx : De S H x a) (hy : De S' H y b) (hd : Py.dep α ≤ 64) (q : Q (.bl (decide (a = b))) H) : rEqD K x y H Q :=
  ⟨enc a, enc b, hx.dp, hy.dp, shaped_enc hd a, shaped_enc hd b, by rw [eqv_enc]; exact q⟩
theorem rNeD_of {α : Type} [Py α] [DecidableEq α] {S S' : List Addr} {x y : V} {a b : α} {Q : VK} (hx : De S H x a) (hy : De S' H y b) (hd : Py.dep α ≤ 64) (q : Q (.bl (!decide (a = b))) H) : rNeD K x y H Q :=
  ⟨enc a, enc b, hx.dp, hy.dp, shaped_enc hd a, shaped_enc hd b, by rw [eqv_enc]; exact q⟩
end
end Lw

set_option Elab.async false
set_option linter.all false
set_option maxRecDepth 100000
set_option maxHeartbeats 4000000
/-! promises of defs with a star; small things of the package -/
namespace Lw
open PySem PySem.Spec PyProof.Rows L2 He StX
open En (enc)
/-- a promise of n values and a tuple of the rest -/
def spS (n : Nat) (sp : Sp) : Sp := fun vs H Q E => ∃ ws rest, vs = ws ++ rest ∧ ws.length = n ∧ rest.length ≤ sizeLine ∧ ∀ p, H p = Option.none → sp (ws ++ [V.ref p]) (upd H p (.tup rest)) Q E
theorem spS0 {sp : Sp} {vs : List V} {H : Hp} {Q : VK} {E : XK} (hz : vs.length ≤ sizeLine) (h : ∀ p, H p = Option.none → sp [V.ref p] (upd H p (.tup vs)) Q E) : spS 0 sp vs H Q E := ⟨[], vs, rfl, rfl, hz, h⟩
theorem spS1 {sp : Sp} {a : V} {vs : List V} {H : Hp} {Q : VK} {E : XK} (hz : vs.length ≤ sizeLine) (h : ∀ p, H p = Option.none → sp [a, V.ref p] (upd H p (.tup vs)) Q E) : spS 1 sp (a :: vs) H Q E := ⟨[a], vs, rfl, rfl, hz, h⟩
/-- all of S stand in H -/
def Old (S : List Addr) (H : Hp) : Prop := ∀ a ∈ S, ∃ o, H a = some o
theorem Old.nil {H : Hp} : Old [] H := fun _ h => nomatch h
theorem Old.cons {S : List Addr} {H : Hp} {a : Addr} {o : HO} (e : H a = some o) (h : Old S H) : Old (a :: S) H := fun b hb => by
  rcases List.mem_cons.mp hb with z | z
  · exact ⟨o, z ▸ e⟩
  · exact h b z
theorem Old.keep {S T : List Addr} {H H' : Hp} (h : Old S H) (k : Kp T H H') (hT : ∀ a ∈ T, ∃ o, H' a = some o) : Old S H' := fun a ha => by
  obtain ⟨o, e⟩ := h a ha
  by_cases z : a ∈ T
  · exact hT a z
  · exact ⟨o, k a o z e⟩
theorem Old.keep0 {S : List Addr} {H H' : Hp} (h : Old S H) (k : Kp [] H H') : Old S H' := fun a ha => by
  obtain ⟨o, e⟩ := h a ha
  exact ⟨o, k a o (fun z => nomatch z) e⟩
theorem Old.no {S : List Addr} {H : Hp} {p : Addr} (h : Old S H) (e : H p = none) : p ∉ S := fun z => by
  obtain ⟨o, q⟩ := h p z
  rw [e] at q
  cases q
theorem Kp.of0 {S : List Addr} {H H' : Hp} (k : Kp [] H H') : Kp S H H' := k.mono fun _ z => nomatch z
def isCntD : PyData → Bool
  | .int i => decide (0 ≤ i)
  | _ => false
def isCplD : PyData → Bool
  | .tuple [_, _] => true
  | _ => false
def isStrD : PyData → Bool
  | .tuple [.int a, .int b] => decide (a ≤ b)
  | _ => false
/-- whether a stretch touches a cell -/
def tch (p : Int × Int) (c : Int) : Bool := decide (p.1 ≤ c) && decide (c ≤ p.2)
theorem rEq_int {i j : Int} {H : Hp} {Q : VK} : rEq (.int i) (.int j) H Q ↔ Q (.bl (decide (i = j))) H := by
  have e : decide (V.int i = V.int j) = decide (i = j) := decide_eq_decide.mpr (by rw [V.int.injEq])
  unfold rEq
  rw [e]
  exact ⟨fun h => h.2, fun h => ⟨rfl, h⟩⟩
theorem rNe_int {i j : Int} {H : Hp} {Q : VK} : rNe (.int i) (.int j) H Q ↔ Q (.bl (!decide (i = j))) H := by
  have e : decide (V.int i = V.int j) = decide (i = j) := decide_eq_decide.mpr (by rw [V.int.injEq])
  unfold rNe
  rw [e]
  exact ⟨fun h => h.2, fun h => ⟨rfl, h⟩⟩
theorem rEq_str {i j : Str} {H : Hp} {Q : VK} : rEq (.str i) (.str j) H Q ↔ Q (.bl (decide (i = j))) H := by
  have e : decide (V.str i = V.str j) = decide (i = j) := decide_eq_decide.mpr (by rw [V.str.injEq])
  unfold rEq
  rw [e]
  exact ⟨fun h => h.2, fun h => ⟨rfl, h⟩⟩
theorem rNe_str {i j : Str} {H : Hp} {Q : VK} : rNe (.str i) (.str j) H Q ↔ Q (.bl (!decide (i = j))) H := by
  have e : decide (V.str i = V.str j) = decide (i = j) := decide_eq_decide.mpr (by rw [V.str.injEq])
  unfold rNe
  rw [e]
  exact ⟨fun h => h.2, fun h => ⟨rfl, h⟩⟩
theorem not_cpl_str {d : PyData} (h : isCplD d = false) : isStrD d = false := by
  unfold isStrD
  split
  · simp [isCplD] at h
  · rfl

/-! ### walks -/
theorem walk_enumT {K : PySem.W.Frag} {a : Addr} {k : Int} {xs : List V} : Walk (IteT K a k) xs.length (fun H => SqT K H a xs) (YPair (fun i => some (.int (k + (i : Nat)))) (fun i => xs[i]?)) :=
  ⟨fun i _ hi q => ⟨xs, xs[i], q, by simp [hi]⟩, fun _ q => ⟨xs, q, Nat.le_refl _⟩, fun _ _ _ _ _ q ⟨T, x, e, n, u, h⟩ => ⟨T, _, x, e, n, u, rfl, h xs q⟩⟩
instance : En Bool where
  enc := .bool
instance : Py Bool where
  dep := 0
  eqv := fun a b => by simp [enc, PyData.eqv]
  lay := fun a => by simp [enc, PyData.canLay0]
  dle := fun a => by simp [enc, PyData.depth]
theorem De.bool {S : List Addr} {H : Hp} {v : V} {b : Bool} (h : De S H v b) : v = .bl b := by cases h; rfl
theorem De.upd {α : Type} [En α] {S : List Addr} {H : Hp} {v : V} {a : α} {p : Addr} {o : HO} (h : De S H v a) (hp : p ∈ S) : De S (upd H p o) v a := Dx.keep (.mut hp) h
/-! ### a comprehension's list, its items data: r i what stands there behind i turns; D the list, T what else may be changed -/
structure LcP {α : Type} [En α] (S T : List Addr) (H1 : Hp) (D : Addr) (r : Nat → List α) (i : Nat) (H : Hp) : Prop where
  acc : ∃ xs, H D = some (.lst xs) ∧ DeA (D :: S) H xs (r i)
  kp : Kp (D :: T) H1 H
  new : H1 D = none
theorem LcP.start {α : Type} [En α] {S T : List Addr} {H1 : Hp} {D : Addr} {r : Nat → List α} (n : H1 D = none) (h : r 0 = []) : LcP S T H1 D r 0 (upd H1 D (.lst [])) :=
  ⟨⟨[], upd_same, by rw [h]; exact .nil⟩, .new n, n⟩
theorem LcP.put {α : Type} [En α] {S T : List Addr} {H1 H H4 : Hp} {D : Addr} {r : Nat → List α} {i : Nat} {y : V} {v : α} (p : LcP S T H1 D r i H) (k : Kp T H H4) (oT : Old T H1) (hT : ∀ a ∈ T, a ∈ S) (hv : De (D :: S) H4 y v) (hr : r (i + 1) = r i ++ [v]) (hz : (r i).length < sizeLine) :
    ∃ acc, H4 D = some (.lst acc) ∧ acc.length < sizeLine ∧ LcP S T H1 D r (i + 1) (upd H4 D (.lst (acc ++ [y]))) := by
  obtain ⟨xs, e, d⟩ := p.acc
  have nT : D ∉ T := oT.no p.new
  have e4 := k D _ nT e
  have d4 : DeA (D :: S) H4 xs (r i) := DxA.keep (k.mono fun a z => List.mem_cons_of_mem _ (hT a z)) d
  refine ⟨xs, e4, by rw [d.len]; exact hz, ⟨_, upd_same, ?_⟩, ?_, p.new⟩
  · show DxA (D :: S) _ (xs ++ [y]) ((r (i + 1)).map enc)
    rw [hr, List.map_append]
    exact DxA.append (DxA.keep (.mut (List.mem_cons_self ..)) d4) (.cons (Dx.keep (.mut (List.mem_cons_self ..)) hv) .nil)
  · exact (p.kp.trans (k.mono fun a z => List.mem_cons_of_mem _ z)).trans (.mut (List.mem_cons_self ..))
theorem LcP.skip {α : Type} [En α] {S T : List Addr} {H1 H H3 : Hp} {D : Addr} {r : Nat → List α} {i : Nat} (p : LcP S T H1 D r i H) (k : Kp T H H3) (oT : Old T H1) (hT : ∀ a ∈ T, a ∈ S) (hr : r (i + 1) = r i) : LcP S T H1 D r (i + 1) H3 := by
  obtain ⟨xs, e, d⟩ := p.acc
  refine ⟨⟨xs, k D _ (oT.no p.new) e, ?_⟩, p.kp.trans (k.mono fun a z => List.mem_cons_of_mem _ z), p.new⟩
  rw [hr]
  exact DxA.keep (k.mono fun a z => List.mem_cons_of_mem _ (hT a z)) d
theorem LcP.done {α : Type} [En α] {S T : List Addr} {H1 H : Hp} {D : Addr} {r : Nat → List α} {n : Nat} (p : LcP S T H1 D r n H) (oS : Old S H1) : Kp T H1 H ∧ De S H (.ref D) (r n) := by
  obtain ⟨xs, e, d⟩ := p.acc
  exact ⟨p.kp.newS p.new, .lst (oS.no p.new) e (DxA.sub d fun a z => List.mem_cons_of_mem _ z)⟩
/-- what stood ahead of the comprehension -/
theorem LcP.keep {α β : Type} [En α] [En β] {S T : List Addr} {H1 H : Hp} {D : Addr} {r : Nat → List α} {n : Nat} {v : V} {b : β} (p : LcP S T H1 D r n H) (hT : ∀ a ∈ T, a ∈ S) (h : De S H1 v b) : De (D :: S) H v b :=
  Dx.keep (p.kp.mono fun a z => by
    rcases List.mem_cons.mp z with z | z
    · rw [z]; exact List.mem_cons_self ..
    · exact List.mem_cons_of_mem _ (hT a z)) (Dx.wid (fun a z => by
    rcases List.mem_cons.mp z with z | z
    · rw [z]; exact .inr p.new
    · exact .inl z) h)
theorem LcP.seqT {α : Type} [En α] {K : PySem.W.Frag} {S T : List Addr} {H1 H : Hp} {D : Addr} {r : Nat → List α} {n : Nat} {a : Addr} {xs : List V} (p : LcP S T H1 D r n H) (nT : a ∉ T) (e : H1 a = some (.tup xs)) : SqT K H a xs :=
  SqT.of (p.kp a _ (fun z => by
    rcases List.mem_cons.mp z with z | z
    · rw [z, p.new] at e; cases e
    · exact nT z) e)
theorem LcP.seqL {α : Type} [En α] {K : PySem.W.Frag} {S T : List Addr} {H1 H : Hp} {D : Addr} {r : Nat → List α} {n : Nat} {a : Addr} {xs : List V} (p : LcP S T H1 D r n H) (nT : a ∉ T) (e : H1 a = some (.lst xs)) : SqL K H a xs :=
  SqL.of (p.kp a _ (fun z => by
    rcases List.mem_cons.mp z with z | z
    · rw [z, p.new] at e; cases e
    · exact nT z) e)
theorem subNil' {a : Addr} : a ∉ ([] : List Addr) := fun h => nomatch h
theorem subNil {S : List Addr} : ∀ a ∈ ([] : List Addr), a ∈ S := fun _ h => nomatch h
theorem tFor_it {wi : TI} {g : TG} {tb : TS} {D : Ends} {σ : L2.St} {H : Hp} {J : It} {n : Nat} {G : Hp → Prop} {Y : Nat → Hp → V → Hp → Prop} (H1 : Hp) (w : Walk J n G Y) (Pv : Nat → L2.St → Hp → Prop) (hwi : ∀ R : It → Hp → Prop, R J H1 → wi σ H R) (h0 : Pv 0 σ H1)
    (hG : ∀ i σ H, i ≤ n → Pv i σ H → G H) (hs : ∀ i x σ H H', i < n → Pv i σ H → Y i H x H' → g x σ H' fun σ2 H2 => tb { D with nx := Pv (i + 1), ct := Pv (i + 1), bk := D.nx } σ2 H2) (hd : ∀ σ H, Pv n σ H → D.nx σ H) : tFor wi g tb D σ H :=
  hwi _ (for_it w Pv h0 hG hs hd)
theorem tLc_d {α : Type} [En α] {wi : TI} {g : TG} {tt : TT} {te : TE} {vs : List Nat} {σ : L2.St} {H : Hp} {Q : VK} {J : It} {n : Nat} {G : Hp → Prop} {Y : Nat → Hp → V → Hp → Prop} (H1 : Hp) (S T : List Addr) (r : Nat → List α) (w : Walk J n G Y)
    (hwi : ∀ R : It → Hp → Prop, R J H1 → wi σ H R) (hr : r 0 = []) (hG : ∀ D i H, LcP S T H1 D r i H → G H)
    (hs : ∀ D i x H H', i < n → LcP S T H1 D r i H → Y i H x H' → g x (wipe σ vs) H' fun σ2 H2 => wipe σ2 vs = wipe σ vs ∧ tt σ2 H2 fun b H3 =>
      if b = true then te σ2 H3 fun y H4 => ∃ acc, H4 D = some (.lst acc) ∧ acc.length < sizeLine ∧ LcP S T H1 D r (i + 1) (upd H4 D (.lst (acc ++ [y]))) else LcP S T H1 D r (i + 1) H3)
    (hd : ∀ D H, LcP S T H1 D r n H → Q (.ref D) H) : tLc wi g tt te vs σ H Q :=
  hwi _ fun D hD => lc_it w (LcP S T H1 D r) (.start hD hr) (fun i H _ p => hG D i H p) (hs D) (hd D)
theorem LcP.old0 {α : Type} [En α] {S : List Addr} {H1 H : Hp} {D : Addr} {r : Nat → List α} {i : Nat} (p : LcP S [] H1 D r i H) (oS : Old S H1) : Old (D :: S) H := fun a ha => by
  rcases List.mem_cons.mp ha with z | z
  · obtain ⟨xs, e, _⟩ := p.acc
    exact ⟨_, z ▸ e⟩
  · obtain ⟨o, e⟩ := oS a z
    exact ⟨o, p.kp a o (fun q => by rw [List.mem_singleton.mp q, p.new] at e; cases e) e⟩
theorem take_snoc {α : Type} {l : List α} {i : Nat} {a : α} (h : l[i]? = some a) : l.take (i + 1) = l.take i ++ [a] := by
  rw [List.take_add_one, h]
  rfl
end Lw

set_option Elab.async false
set_option linter.all false
set_option maxRecDepth 100000
set_option maxHeartbeats 4000000
/-! texts of data -/
namespace Lw
open PySem PySem.Spec PyProof.Rows L2 He StX
open En (enc)
instance : En Str where
  enc := .str
theorem De.str {S : List Addr} {H : Hp} {v : V} {x : Str} (h : De S H v x) : v = .str x := by cases h; rfl
theorem DeA.strs {S : List Addr} {H : Hp} : ∀ {ns : List Str} {vs : List V}, DeA S H vs ns → vs = ns.map V.str
  | [], _, .nil => rfl
  | n :: ns, _, .cons h t => by
    cases h
    rw [DeA.strs (ns := ns) t]
    rfl
theorem DeA.intsV {S : List Addr} {H : Hp} : ∀ {ns : List Int} {vs : List V}, DeA S H vs ns → vs = ns.map V.int
  | [], _, .nil => rfl
  | n :: ns, _, .cons h t => by
    cases h
    rw [DeA.intsV (ns := ns) t]
    rfl
theorem DeA.bools {S : List Addr} {H : Hp} : ∀ {ns : List Bool} {vs : List V}, DeA S H vs ns → vs = ns.map V.bl
  | [], _, .nil => rfl
  | n :: ns, _, .cons h t => by
    cases h
    rw [DeA.bools (ns := ns) t]
    rfl
/-- numbers of less than fifty-one digits -/
def Sm (a : Int) : Prop := a.natAbs < 10 ^ 50
theorem Sm.log {a : Int} (h : Sm a) : a.natAbs.log2 < 1920 := by
  unfold Sm at h
  by_cases z : a.natAbs = 0
  · rw [z]; decide
  · exact (Nat.log2_lt z).mpr (Nat.lt_of_lt_of_le h (by decide +kernel))
theorem Sm.len {a : Int} (h : Sm a) : (Str.ofString (toString a)).length ≤ 51 := by
  rw [PySem.ofString_length]
  exact int_text_length_le10 (k := 50) (by decide) h
/-- the text of a stretch -/
def pairT (p : Int × Int) : Str := (enc p).shown
theorem pair_show {p : Int × Int} (h1 : Sm p.1) (h2 : Sm p.2) : (enc p).showable = true := by
  show (PyData.tuple [.int p.1, .int p.2]).showable = true
  simp only [PyData.showable, PyData.showableAll, Bool.and_true, Bool.and_eq_true, decide_eq_true_eq]
  exact ⟨h1.log, h2.log⟩
theorem pair_len {p : Int × Int} (h1 : Sm p.1) (h2 : Sm p.2) : (pairT p).length ≤ 120 ∧ 1 ≤ (pairT p).length := by
  have e : pairT p = ("(" : Str) ++ (Str.ofString (toString p.1) ++ (", " : Str) ++ Str.ofString (toString p.2)) ++ (")" : Str) := by
    unfold pairT
    show (PyData.tuple [.int p.1, .int p.2]).shown = _
    simp only [PyData.shown, PyData.shownAll, tupleText, Str.join]
    rfl
  rw [e]
  simp only [strLen_append]
  have l1 := h1.len
  have l2 := h2.len
  have a1 : ("(" : Str).length = 1 := by decide +kernel
  have a2 : (", " : Str).length = 2 := by decide +kernel
  have a3 : (")" : Str).length = 1 := by decide +kernel
  omega
theorem slA_take {K : PySem.W.Frag} {S : List Addr} {a : Addr} {xs : List V} {n : Nat} {H : Hp} {Q : VK} (oS : Old S H) (nS : a ∉ S) (e : H a = some (.tup xs)) (hn : n ≤ xs.length)
    (q : ∀ p H', Kp [] H H' → p ∉ S → H' p = some (.tup (xs.take n)) → Q (.ref p) H') : rSlA K (.ref a) none (some ((n : Nat) : Int)) H Q := by
  refine ⟨a, xs, rfl, SqT.of e, ?_, ?_⟩
  · rintro ⟨_, h2⟩
    rw [HT.sIx_nat] at h2
    refine q a H .refl nS ?_
    rw [show n = xs.length by omega, List.take_length]
    exact e
  · intro _ p hp
    refine q p _ (.new hp) (oS.no hp) ?_
    rw [upd_same]
    unfold cutV
    rw [HT.sIx_nat, HT.sIx_none, List.drop_zero, Nat.sub_zero, Nat.min_eq_left hn]
theorem ixT {K : PySem.W.Frag} {a : Addr} {xs : List V} {v : V} {n : Nat} {i : Int} {H : Hp} {Q : VK} (e : H a = some (.tup xs)) (hi : i = n) (hv : xs[n]? = some v) (q : Q v H) : rIxT K (.ref a) (.int i) H Q :=
  ⟨a, xs, i, v, rfl, rfl, SqT.of e, by rw [hi]; exact atI_nat hv, q⟩
theorem ixL {K : PySem.W.Frag} {a : Addr} {xs : List V} {v : V} {n : Nat} {i : Int} {H : Hp} {Q : VK} (e : H a = some (.lst xs)) (hi : i = n) (hv : xs[n]? = some v) (q : Q v H) : rIxL K (.ref a) (.int i) H Q :=
  ⟨a, xs, i, v, rfl, rfl, SqL.of e, by rw [hi]; exact atI_nat hv, q⟩
theorem strD {S : List Addr} {H : Hp} {v : V} {p : Int × Int} (h : De S H v p) (o : p.1 ≤ p.2) : ∃ d, Dx S H v d ∧ isStrD d = true := ⟨_, h, by
  show isStrD (.tuple [.int p.1, .int p.2]) = true
  simp only [isStrD, decide_eq_true o]⟩
theorem sum_le {c : Nat} : ∀ {l : List Nat}, (∀ x ∈ l, x ≤ c) → l.sum ≤ c * l.length
  | [], _ => by simp
  | x :: l, h => by
    have h1 := h x (List.mem_cons_self ..)
    have h2 := sum_le (l := l) fun y hy => h y (List.mem_cons_of_mem _ hy)
    simp only [List.sum_cons, List.length_cons, Nat.mul_succ]
    omega
theorem tyI_int (i : Int) : isIntD (.int i) = true := rfl
theorem any_enc {α : Type} [Py α] [DecidableEq α] (a : α) : ∀ l : List α, ((l.map enc).any fun z => PyData.eqv z (enc a)) = decide (a ∈ l)
  | [] => by simp
  | b :: l => by
    rw [List.map_cons, List.any_cons, any_enc a l, eqv_enc]
    by_cases h : b = a
    · subst h
      simp
    · have h2 : a ≠ b := fun z => h z.symm
      simp [h, h2]
theorem rNotInD_of {K : PySem.W.Frag} {α : Type} [Py α] [DecidableEq α] {S S' : List Addr} {H : Hp} {x y : V} {a : α} {l : List α} {Q : VK} (hx : De S H x a) (hy : De S' H y l) (hd : Py.dep α + 1 ≤ 64) (q : Q (.bl (!decide (a ∈ l))) H) : rNotInD K x y H Q :=
  ⟨enc a, l.map enc, hx.dp, hy.dp, shaped_enc (by omega) a, shaped_enc (α := List α) hd l, by rw [any_enc]; exact q⟩
theorem rInD_of {K : PySem.W.Frag} {α : Type} [Py α] [DecidableEq α] {S S' : List Addr} {H : Hp} {x y : V} {a : α} {l : List α} {Q : VK} (hx : De S H x a) (hy : De S' H y l) (hd : Py.dep α + 1 ≤ 64) (q : Q (.bl (decide (a ∈ l))) H) : rInD K x y H Q :=
  ⟨enc a, l.map enc, hx.dp, hy.dp, shaped_enc (by omega) a, shaped_enc (α := List α) hd l, by rw [any_enc]; exact q⟩
theorem join_len (sep : Str) (l : List Str) : (Txt.join sep l).length = (l.map (·.length)).sum + (l.length - 1) * sep.length := size_glued sep l
/-- a list of two things -/
structure Li2 (α β : Type) where
  a : α
  b : β
instance {α β : Type} [DecidableEq α] [DecidableEq β] : DecidableEq (Li2 α β) := fun x y => decidable_of_iff (x.a = y.a ∧ x.b = y.b) ⟨fun h => by cases x; cases y; cases h; simp_all, fun h => by rw [h]; exact ⟨rfl, rfl⟩⟩
instance {α β : Type} [En α] [En β] : En (Li2 α β) where
  enc := fun p => .list [enc p.a, enc p.b]
instance {α β : Type} [Py α] [Py β] : Py (Li2 α β) where
  dep := max (Py.dep α) (Py.dep β) + 1
  eqv := fun a b => by
    show PyData.eqv (.list [enc a.a, enc a.b]) (.list [enc b.a, enc b.b]) = true ↔ a = b
    simp only [PyData.eqv, PyData.eqvAll, Bool.and_eq_true, Bool.and_true, Py.eqv]
    constructor
    · rintro ⟨h1, h2⟩
      cases a
      cases b
      simp_all
    · rintro rfl
      exact ⟨rfl, rfl⟩
  lay := fun a => by
    show (PyData.list [enc a.a, enc a.b]).canLay0 = true
    simp [PyData.canLay0, PyData.canLayAll0, Py.lay]
  dle := fun a => by
    have h1 := Py.dle a.a
    have h2 := Py.dle a.b
    show (PyData.list [enc a.a, enc a.b]).depth ≤ _
    simp only [PyData.depth, PyData.depthAll]
    omega
theorem De.li2 {α β : Type} [En α] [En β] {S : List Addr} {H : Hp} {v : V} {p : Li2 α β} (h : De S H v p) : ∃ a x y, v = .ref a ∧ a ∉ S ∧ H a = some (.lst [x, y]) ∧ De S H x p.a ∧ De S H y p.b := by
  cases h with
  | lst n e h =>
    cases h with
    | cons h1 t =>
      cases t with
      | cons h2 t =>
        cases t
        exact ⟨_, _, _, rfl, n, e, h1, h2⟩
theorem De.mkLi2 {α β : Type} [En α] [En β] {S : List Addr} {H : Hp} {a : Addr} {x y : V} {p : Li2 α β} (n : a ∉ S) (e : H a = some (.lst [x, y])) (hx : De S H x p.a) (hy : De S H y p.b) : De S H (.ref a) p := .lst n e (.cons hx (.cons hy .nil))
/-- a pot of draws -/
def PotAt (H : Hp) (p : Addr) : Prop := ∃ a b : Int, H p = some (.lst [.int a, .int b]) ∧ 0 ≤ a ∧ 0 ≤ b ∧ b < 2147483587
theorem PotAt.old {H : Hp} {p : Addr} (h : PotAt H p) : ∃ o, H p = some o := by
  obtain ⟨a, b, e, _⟩ := h
  exact ⟨_, e⟩
theorem PotAt.keep {S : List Addr} {H H' : Hp} {p : Addr} (h : PotAt H p) (k : Kp S H H') (n : p ∉ S) : PotAt H' p := by
  obtain ⟨a, b, e, h⟩ := h
  exact ⟨a, b, k p _ n e, h⟩
end Lw

set_option Elab.async false
set_option linter.all false
set_option maxRecDepth 100000
set_option maxHeartbeats 4000000
/-! what readings ask of lists and pairs that are data -/
namespace Lw
open PySem PySem.Spec PyProof.Rows L2 He StX
open En (enc)
section
variable {K : PySem.W.Frag} {α β : Type} [En α] [En β] {S : List Addr} {H : Hp} {x y : V} {Q : VK}
theorem De.keep0 {H' : Hp} {a : α} (h : De S H x a) (k : Kp [] H H') : De S H' x a := Dx.keep k.of0 h
theorem newL {vs : List V} {as : List α} (oS : Old S H) (h : DeA S H vs as) (q : ∀ v H', Kp [] H H' → De S H' v as → Q v H') : ∀ p, H p = none → Q (.ref p) (upd H p (.lst vs)) :=
  fun p hp => q _ _ (.new hp) (De.mkLs (oS.no hp) upd_same (DxA.keep (.new hp) h))
theorem newP {a : α} {b : β} (oS : Old S H) (hx : De S H x a) (hy : De S H y b) (q : ∀ v H', Kp [] H H' → De S H' v (a, b) → Q v H') : ∀ p, H p = none → Q (.ref p) (upd H p (.tup [x, y])) :=
  fun p hp => q _ _ (.new hp) (.tup (oS.no hp) upd_same (.cons (Dx.keep (.new hp) hx) (.cons (Dx.keep (.new hp) hy) .nil)))
theorem newLi2 {a : α} {b : β} (oS : Old S H) (hx : De S H x a) (hy : De S H y b) (q : ∀ v H', Kp [] H H' → De S H' v (Li2.mk a b) → Q v H') : ∀ p, H p = none → Q (.ref p) (upd H p (.lst [x, y])) :=
  fun p hp => q _ _ (.new hp) (De.mkLi2 (oS.no hp) upd_same (Dx.keep (.new hp) hx) (Dx.keep (.new hp) hy))
theorem catD {l m : List α} (oS : Old S H) (hx : De S H x l) (hy : De S H y m) (hz : l.length + m.length ≤ 1000000) (q : ∀ v H', Kp [] H H' → De S H' v (l ++ m) → Q v H') : rCat x y H Q := by
  obtain ⟨a, xs, rfl, na, ea, da⟩ := hx.ls
  obtain ⟨b, ys, rfl, nb, eb, db⟩ := hy.ls
  refine ⟨a, b, xs, ys, rfl, rfl, ea, eb, by rw [da.len, db.len]; have := sizeLine_eq; omega, newL oS ?_ q⟩
  show DxA S H (xs ++ ys) ((l ++ m).map enc)
  rw [List.map_append]
  exact DxA.append da db
theorem slD_init {l : List α} (oS : Old S H) (hx : De S H x l) (q : ∀ v H', Kp [] H H' → De S H' v l.dropLast → Q v H') : rSlL K x none (some (-1)) H Q := by
  obtain ⟨a, xs, rfl, na, ea, da⟩ := hx.ls
  refine ⟨a, xs, rfl, SqL.of ea, newL oS ?_ q⟩
  have e : cutV xs none (some (-1)) = xs.dropLast := by
    unfold cutV
    rw [HT.sIx_none, List.drop_zero, Nat.sub_zero]
    show xs.take ((-1 + (xs.length : Int)).toNat) = _
    rw [List.dropLast_eq_take, show (-1 + (xs.length : Int)).toNat = xs.length - 1 by omega]
  rw [e]
  show DxA S H _ (l.dropLast.map enc)
  rw [List.dropLast_eq_take, List.dropLast_eq_take, List.map_take, da.len]
  exact DxA.take _ da
theorem ixD {l : List α} {n : Nat} {i : Int} {a : α} (hx : De S H x l) (hi : i = n) (ha : l[n]? = some a) (q : ∀ v, De S H v a → Q v H) : rIxL K x (.int i) H Q := by
  obtain ⟨b, xs, rfl, nb, eb, db⟩ := hx.ls
  obtain ⟨v, hv, dv⟩ := db.at ha
  exact ixL eb hi hv (q v dv)
theorem ixD_last {l : List α} {a : α} (hx : De S H x l) (ha : l.getLast? = some a) (q : ∀ v, De S H v a → Q v H) : rIxL K x (.int (-1)) H Q := by
  obtain ⟨b, xs, rfl, nb, eb, db⟩ := hx.ls
  have hl : l[l.length - 1]? = some a := by rw [← List.getLast?_eq_getElem?]; exact ha
  have h0 : l.length ≠ 0 := fun z => by rw [List.length_eq_zero_iff.mp z] at ha; cases ha
  obtain ⟨v, hv, dv⟩ := db.at hl
  refine ⟨b, xs, _, v, rfl, rfl, SqL.of eb, ?_, q v dv⟩
  have e : xs = xs.dropLast ++ [v] := by
    have h1 : xs.getLast? = some v := by rw [List.getLast?_eq_getElem?, db.len]; exact hv
    obtain ⟨ys, hy⟩ := List.getLast?_eq_some_iff.mp h1
    rw [hy, List.dropLast_concat]
  rw [e]
  exact atI_last _ _
theorem ixP0 {p : α × β} (hx : De S H x p) (q : ∀ v, De S H v p.1 → Q v H) : rIxT K x (.int 0) H Q := by
  obtain ⟨a, u, v, rfl, na, ea, d1, d2⟩ := hx.pair
  exact ixT ea (n := 0) rfl rfl (q u d1)
theorem ixP1 {p : α × β} (hx : De S H x p) (q : ∀ v, De S H v p.2 → Q v H) : rIxT K x (.int 1) H Q := by
  obtain ⟨a, u, v, rfl, na, ea, d1, d2⟩ := hx.pair
  exact ixT ea (n := 1) rfl rfl (q v d2)
theorem ixLi0 {p : Li2 α β} (hx : De S H x p) (q : ∀ v, De S H v p.a → Q v H) : rIxL K x (.int 0) H Q := by
  obtain ⟨a, u, v, rfl, na, ea, d1, d2⟩ := hx.li2
  exact ixL ea (n := 0) rfl rfl (q u d1)
theorem ixLi1 {p : Li2 α β} (hx : De S H x p) (q : ∀ v, De S H v p.b → Q v H) : rIxL K x (.int 1) H Q := by
  obtain ⟨a, u, v, rfl, na, ea, d1, d2⟩ := hx.li2
  exact ixL ea (n := 1) rfl rfl (q v d2)
end
theorem ixI0 {K : PySem.W.Frag} {S : List Addr} {H : Hp} {x : V} {Q : VK} {p : Int × Int} (hx : De S H x p) (q : Q (.int p.1) H) : rIxT K x (.int 0) H Q := ixP0 hx fun v d => by rw [d.int]; exact q
theorem ixI1 {K : PySem.W.Frag} {S : List Addr} {H : Hp} {x : V} {Q : VK} {p : Int × Int} (hx : De S H x p) (q : Q (.int p.2) H) : rIxT K x (.int 1) H Q := ixP1 hx fun v d => by rw [d.int]; exact q
section
variable {K : PySem.W.Frag} {α β : Type} [En α] [En β] {S : List Addr} {H : Hp} {x y : V} {Q : VK} {p : Addr}
theorem factL {vs : List V} {as : List α} (oS : Old S H) (h : DeA S H vs as) (hp : H p = none) : De S (upd H p (.lst vs)) (.ref p) as := De.mkLs (oS.no hp) upd_same (DxA.keep (.new hp) h)
theorem factP {a : α} {b : β} (oS : Old S H) (hx : De S H x a) (hy : De S H y b) (hp : H p = none) : De S (upd H p (.tup [x, y])) (.ref p) (a, b) := .tup (oS.no hp) upd_same (.cons (Dx.keep (.new hp) hx) (.cons (Dx.keep (.new hp) hy) .nil))
theorem factLi2 {a : α} {b : β} (oS : Old S H) (hx : De S H x a) (hy : De S H y b) (hp : H p = none) : De S (upd H p (.lst [x, y])) (.ref p) (Li2.mk a b) := De.mkLi2 (oS.no hp) upd_same (Dx.keep (.new hp) hx) (Dx.keep (.new hp) hy)
end
theorem De.keepN {α : Type} [En α] {S T : List Addr} {H H' : Hp} {f : Addr} {v : V} {a : α} (h : De S H v a) (hf : H f = none) (k : Kp (f :: T) H H') (hT : ∀ a ∈ T, a ∈ S) : De (f :: S) H' v a :=
  Dx.keep (k.mono fun a z => by
    rcases List.mem_cons.mp z with z | z
    · rw [z]; exact List.mem_cons_self ..
    · exact List.mem_cons_of_mem _ (hT a z)) (Dx.wid (fun a z => by
    rcases List.mem_cons.mp z with z | z
    · rw [z]; exact .inr hf
    · exact .inl z) h)
theorem Old.keepN {S : List Addr} {H H' : Hp} {f : Addr} {o : HO} (h : Old S H) (k : Kp [f] H H') (e : H' f = some o) : Old (f :: S) H' := fun s hs => by
  rcases List.mem_cons.mp hs with z | z
  · exact ⟨_, z ▸ e⟩
  · by_cases zf : s = f
    · exact ⟨_, zf ▸ e⟩
    · obtain ⟨u, q⟩ := h s z
      exact ⟨u, k s u (fun w => zf (List.mem_singleton.mp w)) q⟩
section
variable {K : PySem.W.Frag} {α β : Type} [En α] [En β] {S : List Addr} {H : Hp} {x y : V} {Q : VK} {p : Addr}
theorem fL {vs : List V} (as : List α) (oS : Old S H) (h : DeA S H vs as) (hp : H p = none) : Kp [] H (upd H p (.lst vs)) ∧ De S (upd H p (.lst vs)) (.ref p) as := ⟨.new hp, factL oS h hp⟩
theorem fP (a : α) (b : β) (oS : Old S H) (hx : De S H x a) (hy : De S H y b) (hp : H p = none) : Kp [] H (upd H p (.tup [x, y])) ∧ De S (upd H p (.tup [x, y])) (.ref p) (a, b) := ⟨.new hp, factP oS hx hy hp⟩
end
theorem tFor_new {K : PySem.W.Frag} {wi : TI} {g : TG} {tb : TS} {D : Ends} {σ : L2.St} {H : Hp} (vs : List V) (Pv : Addr → Nat → L2.St → Hp → Prop) (hwi : ∀ R : It → Hp → Prop, (∀ L, H L = none → R (Itl K L) (upd H L (.lst vs))) → wi σ H R)
    (h0 : ∀ L, H L = none → Pv L 0 σ (upd H L (.lst vs))) (hG : ∀ L i σ H', Pv L i σ H' → H' L = some (.lst vs))
    (hs : ∀ L i x σ H', H L = none → vs[i]? = some x → Pv L i σ H' → g x σ H' fun σ2 H2 => tb { D with nx := Pv L (i + 1), ct := Pv L (i + 1), bk := D.nx } σ2 H2) (hd : ∀ L σ H', H L = none → Pv L vs.length σ H' → D.nx σ H') : tFor wi g tb D σ H :=
  hwi _ fun L hL => for_it (walk_list (K := K) (a := L) (xs := vs)) (Pv L) (h0 L hL) (fun i σ H' _ p => SqL.of (hG L i σ H' p)) (fun i x σ H1 H2 hi p ⟨e, hx⟩ => by subst e; exact hs L i x σ _ hL hx p) (fun σ H' p => hd L σ H' hL p)
end Lw

set_option Elab.async false
set_option linter.all false
set_option maxRecDepth 100000
namespace Hd
open PySem PySem.Spec PyProof.Rows L2 He Lw
def top (i : Nat) : Stmt := PySem.Challenge.pw_onceseen_k12_whole_histories_that_grow.main.body.getD i (.Pass ⟨0, 0, 0, 0⟩)
abbrev s__wall : Stmt := (top 0)
abbrev s_InvalidCell_init : Stmt := (inClass (top 3) 0)
abbrev s_InvalidStretch_init : Stmt := (inClass (top 4) 0)
abbrev s_InvalidStretches_init : Stmt := (inClass (top 5) 0)
abbrev s_InvalidMoment_init : Stmt := (inClass (top 6) 0)
abbrev s_InvalidEdit_init : Stmt := (inClass (top 7) 0)
abbrev s_WrongVersion_init : Stmt := (inClass (top 9) 0)
abbrev s_is_integer : Stmt := (top 11)
abbrev s_is_count : Stmt := (top 12)
abbrev s_is_couple : Stmt := (top 13)
abbrev s_is_stretch : Stmt := (top 14)
abbrev s_check_cell : Stmt := (top 15)
abbrev s_check_moment : Stmt := (top 16)
abbrev s_check_edit : Stmt := (top 17)
abbrev s__touched : Stmt := (top 19)
abbrev s__listed : Stmt := (top 20)
abbrev s_History_init : Stmt := (inClass (top 21) 0)
abbrev s_History_of_cells : Stmt := (inClass (top 21) 1)
abbrev s_History_moment : Stmt := (inClass (top 21) 2)
abbrev s_History_len : Stmt := (inClass (top 21) 3)
abbrev s_History_getitem : Stmt := (inClass (top 21) 4)
abbrev s_History_iter : Stmt := (inClass (top 21) 5)
abbrev s_History_until : Stmt := (inClass (top 21) 6)
abbrev s_History_add : Stmt := (inClass (top 21) 7)
abbrev s_History_touches : Stmt := (inClass (top 21) 8)
abbrev s_History_version : Stmt := (inClass (top 21) 9)
abbrev s_History_versions : Stmt := (inClass (top 21) 10)
abbrev s_History_stands : Stmt := (inClass (top 21) 11)
abbrev s_History_eq : Stmt := (inClass (top 21) 12)
abbrev s_History_repr : Stmt := (inClass (top 21) 13)
abbrev s__law_pot : Stmt := (top 23)
abbrev s__law_draw : Stmt := (top 24)
abbrev s__law_pick : Stmt := (top 25)
abbrev s__law_base : Stmt := (top 26)
abbrev s__law_rows : Stmt := (top 27)
abbrev s__law_past : Stmt := (top 28)
abbrev s__law_told : Stmt := (top 29)
abbrev s__law_behind : Stmt := (top 30)
abbrev s__law_grown_right : Stmt := (top 31)
abbrev s__law_other_strip : Stmt := (top 32)
abbrev s__law_strips_right : Stmt := (top 33)
abbrev s__law_right : Stmt := (top 34)
abbrev s_law : Stmt := (top 35)
def fn : List DefA := [
  ⟨fun K => ga K "_wall", "_wall", "_wall", defArgs s__wall, defBody s__wall, defScope s__wall, [], []⟩,
  ⟨fun K => ma K (ga K "InvalidCell") "__init__", "__init__", "InvalidCell.__init__", defArgs s_InvalidCell_init, defBody s_InvalidCell_init, defScope s_InvalidCell_init, [], []⟩,
  ⟨fun K => ma K (ga K "InvalidStretch") "__init__", "__init__", "InvalidStretch.__init__", defArgs s_InvalidStretch_init, defBody s_InvalidStretch_init, defScope s_InvalidStretch_init, [], []⟩,
  ⟨fun K => ma K (ga K "InvalidStretches") "__init__", "__init__", "InvalidStretches.__init__", defArgs s_InvalidStretches_init, defBody s_InvalidStretches_init, defScope s_InvalidStretches_init, [], []⟩,
  ⟨fun K => ma K (ga K "InvalidMoment") "__init__", "__init__", "InvalidMoment.__init__", defArgs s_InvalidMoment_init, defBody s_InvalidMoment_init, defScope s_InvalidMoment_init, [], []⟩,
  ⟨fun K => ma K (ga K "InvalidEdit") "__init__", "__init__", "InvalidEdit.__init__", defArgs s_InvalidEdit_init, defBody s_InvalidEdit_init, defScope s_InvalidEdit_init, [], []⟩,
  ⟨fun K => ma K (ga K "WrongVersion") "__init__", "__init__", "WrongVersion.__init__", defArgs s_WrongVersion_init, defBody s_WrongVersion_init, defScope s_WrongVersion_init, [], []⟩,
  ⟨fun K => ga K "is_integer", "is_integer", "is_integer", defArgs s_is_integer, defBody s_is_integer, defScope s_is_integer, [], []⟩,
  ⟨fun K => ga K "is_count", "is_count", "is_count", defArgs s_is_count, defBody s_is_count, defScope s_is_count, [], []⟩,
  ⟨fun K => ga K "is_couple", "is_couple", "is_couple", defArgs s_is_couple, defBody s_is_couple, defScope s_is_couple, [], []⟩,
  ⟨fun K => ga K "is_stretch", "is_stretch", "is_stretch", defArgs s_is_stretch, defBody s_is_stretch, defScope s_is_stretch, [], []⟩,
  ⟨fun K => ga K "check_cell", "check_cell", "check_cell", defArgs s_check_cell, defBody s_check_cell, defScope s_check_cell, [], []⟩,
  ⟨fun K => ga K "check_moment", "check_moment", "check_moment", defArgs s_check_moment, defBody s_check_moment, defScope s_check_moment, [], []⟩,
  ⟨fun K => ga K "check_edit", "check_edit", "check_edit", defArgs s_check_edit, defBody s_check_edit, defScope s_check_edit, [], []⟩,
  ⟨fun K => ga K "_touched", "_touched", "_touched", defArgs s__touched, defBody s__touched, defScope s__touched, [], []⟩,
  ⟨fun K => ga K "_listed", "_listed", "_listed", defArgs s__listed, defBody s__listed, defScope s__listed, [], []⟩,
  ⟨fun K => ma K (ga K "History") "__init__", "__init__", "History.__init__", defArgs s_History_init, defBody s_History_init, defScope s_History_init, [], []⟩,
  ⟨fun K => He5.wf K (ga K "History") "classmethod" "of_cells", "of_cells", "History.of_cells", defArgs s_History_of_cells, defBody s_History_of_cells, defScope s_History_of_cells, [], []⟩,
  ⟨fun K => pg K "History" "moment", "moment", "History.moment", defArgs s_History_moment, defBody s_History_moment, defScope s_History_moment, [], []⟩,
  ⟨fun K => ma K (ga K "History") "__len__", "__len__", "History.__len__", defArgs s_History_len, defBody s_History_len, defScope s_History_len, [], []⟩,
  ⟨fun K => ma K (ga K "History") "__getitem__", "__getitem__", "History.__getitem__", defArgs s_History_getitem, defBody s_History_getitem, defScope s_History_getitem, [], []⟩,
  ⟨fun K => ma K (ga K "History") "__iter__", "__iter__", "History.__iter__", defArgs s_History_iter, defBody s_History_iter, defScope s_History_iter, [], []⟩,
  ⟨fun K => ma K (ga K "History") "until", "until", "History.until", defArgs s_History_until, defBody s_History_until, defScope s_History_until, [], []⟩,
  ⟨fun K => ma K (ga K "History") "__add__", "__add__", "History.__add__", defArgs s_History_add, defBody s_History_add, defScope s_History_add, [], []⟩,
  ⟨fun K => ma K (ga K "History") "touches", "touches", "History.touches", defArgs s_History_touches, defBody s_History_touches, defScope s_History_touches, [], []⟩,
  ⟨fun K => ma K (ga K "History") "version", "version", "History.version", defArgs s_History_version, defBody s_History_version, defScope s_History_version, [.non], []⟩,
  ⟨fun K => ma K (ga K "History") "versions", "versions", "History.versions", defArgs s_History_versions, defBody s_History_versions, defScope s_History_versions, [], []⟩,
  ⟨fun K => ma K (ga K "History") "stands", "stands", "History.stands", defArgs s_History_stands, defBody s_History_stands, defScope s_History_stands, [], []⟩,
  ⟨fun K => ma K (ga K "History") "__eq__", "__eq__", "History.__eq__", defArgs s_History_eq, defBody s_History_eq, defScope s_History_eq, [], []⟩,
  ⟨fun K => ma K (ga K "History") "__repr__", "__repr__", "History.__repr__", defArgs s_History_repr, defBody s_History_repr, defScope s_History_repr, [], []⟩,
  ⟨fun K => ga K "_law_pot", "_law_pot", "_law_pot", defArgs s__law_pot, defBody s__law_pot, defScope s__law_pot, [], []⟩,
  ⟨fun K => ga K "_law_draw", "_law_draw", "_law_draw", defArgs s__law_draw, defBody s__law_draw, defScope s__law_draw, [], []⟩,
  ⟨fun K => ga K "_law_pick", "_law_pick", "_law_pick", defArgs s__law_pick, defBody s__law_pick, defScope s__law_pick, [], []⟩,
  ⟨fun K => ga K "_law_base", "_law_base", "_law_base", defArgs s__law_base, defBody s__law_base, defScope s__law_base, [], []⟩,
  ⟨fun K => ga K "_law_rows", "_law_rows", "_law_rows", defArgs s__law_rows, defBody s__law_rows, defScope s__law_rows, [], []⟩,
  ⟨fun K => ga K "_law_past", "_law_past", "_law_past", defArgs s__law_past, defBody s__law_past, defScope s__law_past, [], []⟩,
  ⟨fun K => ga K "_law_told", "_law_told", "_law_told", defArgs s__law_told, defBody s__law_told, defScope s__law_told, [], []⟩,
  ⟨fun K => ga K "_law_behind", "_law_behind", "_law_behind", defArgs s__law_behind, defBody s__law_behind, defScope s__law_behind, [], []⟩,
  ⟨fun K => ga K "_law_grown_right", "_law_grown_right", "_law_grown_right", defArgs s__law_grown_right, defBody s__law_grown_right, defScope s__law_grown_right, [], []⟩,
  ⟨fun K => ga K "_law_other_strip", "_law_other_strip", "_law_other_strip", defArgs s__law_other_strip, defBody s__law_other_strip, defScope s__law_other_strip, [], []⟩,
  ⟨fun K => ga K "_law_strips_right", "_law_strips_right", "_law_strips_right", defArgs s__law_strips_right, defBody s__law_strips_right, defScope s__law_strips_right, [], []⟩,
  ⟨fun K => ga K "_law_right", "_law_right", "_law_right", defArgs s__law_right, defBody s__law_right, defScope s__law_right, [], []⟩,
  ⟨fun K => ga K "law", "law", "law", defArgs s_law, defBody s_law, defScope s_law, [], []⟩
]
def fs : List (Frag → Bool) := [
  bGlo "_wall",
  bGlo "StripError",
  bGlo "InvalidCell",
  bGlo "InvalidStretch",
  bGlo "InvalidStretches",
  bGlo "InvalidMoment",
  bGlo "InvalidEdit",
  bGlo "MissingError",
  bGlo "WrongVersion",
  bGlo "is_integer",
  bGlo "is_count",
  bGlo "is_couple",
  bGlo "is_stretch",
  bGlo "check_cell",
  bGlo "check_moment",
  bGlo "check_edit",
  bGlo "_touched",
  bGlo "_listed",
  bGlo "History",
  bGlo "_law_pot",
  bGlo "_law_draw",
  bGlo "_law_pick",
  bGlo "_law_base",
  bGlo "_law_rows",
  bGlo "_law_past",
  bGlo "_law_told",
  bGlo "_law_behind",
  bGlo "_law_grown_right",
  bGlo "_law_other_strip",
  bGlo "_law_strips_right",
  bGlo "_law_right",
  bGlo "law",
  bFree "isinstance",
  bFree "int",
  bFree "bool",
  bFree "tuple",
  bFree "len",
  bFree "repr",
  bFree "enumerate",
  bFree "classmethod",
  bFree "property",
  bFree "TypeError",
  bFree "range",
  bFree "abs",
  bFree "max",
  bFree "divmod",
  bFree "list",
  bFree "all",
  bFree "min",
  bCls "History",
  bNoat "History" "_edits",
  bMkr "History",
  bMeth "History" "__init__",
  bProp "History" "moment",
  bMeth "History" "__len__",
  bMeth "History" "__getitem__",
  bMeth "History" "__iter__",
  bMeth "History" "until",
  bMeth "History" "__add__",
  bBin "History" .Add,
  bBinT "History" .Add "tuple",
  bBinT "History" .Add "list",
  bBinT "History" .Add "int",
  bBinT "History" .Add "str",
  bBinT "History" .Add "NoneType",
  bBinT "History" .Add "bool",
  bBinT "History" .Add "dict",
  bMeth "History" "touches",
  bMeth "History" "version",
  bMeth "History" "versions",
  bMeth "History" "stands",
  bMeth "History" "__eq__",
  bEqOwn "History",
  bMeth "History" "__repr__",
  bTyp "History",
  bNoSub "tuple" "History",
  bNoSub "list" "History",
  bNoSub "int" "History",
  bNoSub "str" "History",
  bNoSub "NoneType" "History",
  bNoSub "bool" "History",
  bNoSub "dict" "History"
]
def loose : List PySem.Str := ["_wall", "StripError", "InvalidCell", "InvalidStretch", "InvalidStretches", "InvalidMoment", "InvalidEdit", "MissingError", "WrongVersion", "is_integer", "is_count", "is_couple", "is_stretch", "check_cell", "check_moment", "check_edit", "_touched", "_listed", "History", "_law_pot", "_law_draw", "_law_pick", "_law_base", "_law_rows", "_law_past", "_law_told", "_law_behind", "_law_grown_right", "_law_other_strip", "_law_strips_right", "_law_right"]
def ilaw : Nat := 35
abbrev R : PySem.W.OpenRow := PySem.W.OpenLaw.row PySem.Challenge.rw_onceseen_k12_whole_histories_that_grow
abbrev hk : PySem.W.Hook := hookB 5 fs fn
def ob (s : PySem.W.SharedT) : He.AlD := obsBG 5 fs fn (HandSHeadRun.getT s)
theorem ob_eq (s : PySem.W.SharedT) : ob s = hk.obs s.abs := obsBG_eq (HandSHeadRun.getT_eq s)
structure Tx (K : Frag) (mg : Str → Option Value) : Prop where
  says : SaysB fs fn K
  glo : ∀ x, bGlo x K = true → mg x = some (.ref (ga K x))
  free : ∀ x, bFree x K = true → mg x = none
section
variable {K : Frag} {mg : Str → Option Value}
theorem g__wall (T : Tx K mg) : mg "_wall" = some (.ref (ga K "_wall")) := T.glo _ (T.says.fact (List.mem_of_getElem? (i := 0) rfl))
theorem g_StripError (T : Tx K mg) : mg "StripError" = some (.ref (ga K "StripError")) := T.glo _ (T.says.fact (List.mem_of_getElem? (i := 1) rfl))
theorem g_InvalidCell (T : Tx K mg) : mg "InvalidCell" = some (.ref (ga K "InvalidCell")) := T.glo _ (T.says.fact (List.mem_of_getElem? (i := 2) rfl))
theorem g_InvalidStretch (T : Tx K mg) : mg "InvalidStretch" = some (.ref (ga K "InvalidStretch")) := T.glo _ (T.says.fact (List.mem_of_getElem? (i := 3) rfl))
theorem g_InvalidStretches (T : Tx K mg) : mg "InvalidStretches" = some (.ref (ga K "InvalidStretches")) := T.glo _ (T.says.fact (List.mem_of_getElem? (i := 4) rfl))
theorem g_InvalidMoment (T : Tx K mg) : mg "InvalidMoment" = some (.ref (ga K "InvalidMoment")) := T.glo _ (T.says.fact (List.mem_of_getElem? (i := 5) rfl))
theorem g_InvalidEdit (T : Tx K mg) : mg "InvalidEdit" = some (.ref (ga K "InvalidEdit")) := T.glo _ (T.says.fact (List.mem_of_getElem? (i := 6) rfl))
theorem g_MissingError (T : Tx K mg) : mg "MissingError" = some (.ref (ga K "MissingError")) := T.glo _ (T.says.fact (List.mem_of_getElem? (i := 7) rfl))
theorem g_WrongVersion (T : Tx K mg) : mg "WrongVersion" = some (.ref (ga K "WrongVersion")) := T.glo _ (T.says.fact (List.mem_of_getElem? (i := 8) rfl))
theorem g_is_integer (T : Tx K mg) : mg "is_integer" = some (.ref (ga K "is_integer")) := T.glo _ (T.says.fact (List.mem_of_getElem? (i := 9) rfl))
theorem g_is_count (T : Tx K mg) : mg "is_count" = some (.ref (ga K "is_count")) := T.glo _ (T.says.fact (List.mem_of_getElem? (i := 10) rfl))
theorem g_is_couple (T : Tx K mg) : mg "is_couple" = some (.ref (ga K "is_couple")) := T.glo _ (T.says.fact (List.mem_of_getElem? (i := 11) rfl))
theorem g_is_stretch (T : Tx K mg) : mg "is_stretch" = some (.ref (ga K "is_stretch")) := T.glo _ (T.says.fact (List.mem_of_getElem? (i := 12) rfl))
theorem g_check_cell (T : Tx K mg) : mg "check_cell" = some (.ref (ga K "check_cell")) := T.glo _ (T.says.fact (List.mem_of_getElem? (i := 13) rfl))
theorem g_check_moment (T : Tx K mg) : mg "check_moment" = some (.ref (ga K "check_moment")) := T.glo _ (T.says.fact (List.mem_of_getElem? (i := 14) rfl))
theorem g_check_edit (T : Tx K mg) : mg "check_edit" = some (.ref (ga K "check_edit")) := T.glo _ (T.says.fact (List.mem_of_getElem? (i := 15) rfl))
theorem g__touched (T : Tx K mg) : mg "_touched" = some (.ref (ga K "_touched")) := T.glo _ (T.says.fact (List.mem_of_getElem? (i := 16) rfl))
theorem g__listed (T : Tx K mg) : mg "_listed" = some (.ref (ga K "_listed")) := T.glo _ (T.says.fact (List.mem_of_getElem? (i := 17) rfl))
theorem g_History (T : Tx K mg) : mg "History" = some (.ref (ga K "History")) := T.glo _ (T.says.fact (List.mem_of_getElem? (i := 18) rfl))
theorem g__law_pot (T : Tx K mg) : mg "_law_pot" = some (.ref (ga K "_law_pot")) := T.glo _ (T.says.fact (List.mem_of_getElem? (i := 19) rfl))
theorem g__law_draw (T : Tx K mg) : mg "_law_draw" = some (.ref (ga K "_law_draw")) := T.glo _ (T.says.fact (List.mem_of_getElem? (i := 20) rfl))
theorem g__law_pick (T : Tx K mg) : mg "_law_pick" = some (.ref (ga K "_law_pick")) := T.glo _ (T.says.fact (List.mem_of_getElem? (i := 21) rfl))
theorem g__law_base (T : Tx K mg) : mg "_law_base" = some (.ref (ga K "_law_base")) := T.glo _ (T.says.fact (List.mem_of_getElem? (i := 22) rfl))
theorem g__law_rows (T : Tx K mg) : mg "_law_rows" = some (.ref (ga K "_law_rows")) := T.glo _ (T.says.fact (List.mem_of_getElem? (i := 23) rfl))
theorem g__law_past (T : Tx K mg) : mg "_law_past" = some (.ref (ga K "_law_past")) := T.glo _ (T.says.fact (List.mem_of_getElem? (i := 24) rfl))
theorem g__law_told (T : Tx K mg) : mg "_law_told" = some (.ref (ga K "_law_told")) := T.glo _ (T.says.fact (List.mem_of_getElem? (i := 25) rfl))
theorem g__law_behind (T : Tx K mg) : mg "_law_behind" = some (.ref (ga K "_law_behind")) := T.glo _ (T.says.fact (List.mem_of_getElem? (i := 26) rfl))
theorem g__law_grown_right (T : Tx K mg) : mg "_law_grown_right" = some (.ref (ga K "_law_grown_right")) := T.glo _ (T.says.fact (List.mem_of_getElem? (i := 27) rfl))
theorem g__law_other_strip (T : Tx K mg) : mg "_law_other_strip" = some (.ref (ga K "_law_other_strip")) := T.glo _ (T.says.fact (List.mem_of_getElem? (i := 28) rfl))
theorem g__law_strips_right (T : Tx K mg) : mg "_law_strips_right" = some (.ref (ga K "_law_strips_right")) := T.glo _ (T.says.fact (List.mem_of_getElem? (i := 29) rfl))
theorem g__law_right (T : Tx K mg) : mg "_law_right" = some (.ref (ga K "_law_right")) := T.glo _ (T.says.fact (List.mem_of_getElem? (i := 30) rfl))
theorem g_law (T : Tx K mg) : mg "law" = some (.ref (ga K "law")) := T.glo _ (T.says.fact (List.mem_of_getElem? (i := 31) rfl))
theorem z_isinstance (T : Tx K mg) : mg "isinstance" = none := T.free _ (T.says.fact (List.mem_of_getElem? (i := 32) rfl))
theorem z_int (T : Tx K mg) : mg "int" = none := T.free _ (T.says.fact (List.mem_of_getElem? (i := 33) rfl))
theorem z_bool (T : Tx K mg) : mg "bool" = none := T.free _ (T.says.fact (List.mem_of_getElem? (i := 34) rfl))
theorem z_tuple (T : Tx K mg) : mg "tuple" = none := T.free _ (T.says.fact (List.mem_of_getElem? (i := 35) rfl))
theorem z_len (T : Tx K mg) : mg "len" = none := T.free _ (T.says.fact (List.mem_of_getElem? (i := 36) rfl))
theorem z_repr (T : Tx K mg) : mg "repr" = none := T.free _ (T.says.fact (List.mem_of_getElem? (i := 37) rfl))
theorem z_enumerate (T : Tx K mg) : mg "enumerate" = none := T.free _ (T.says.fact (List.mem_of_getElem? (i := 38) rfl))
theorem z_classmethod (T : Tx K mg) : mg "classmethod" = none := T.free _ (T.says.fact (List.mem_of_getElem? (i := 39) rfl))
theorem z_property (T : Tx K mg) : mg "property" = none := T.free _ (T.says.fact (List.mem_of_getElem? (i := 40) rfl))
theorem z_TypeError (T : Tx K mg) : mg "TypeError" = none := T.free _ (T.says.fact (List.mem_of_getElem? (i := 41) rfl))
theorem z_range (T : Tx K mg) : mg "range" = none := T.free _ (T.says.fact (List.mem_of_getElem? (i := 42) rfl))
theorem z_abs (T : Tx K mg) : mg "abs" = none := T.free _ (T.says.fact (List.mem_of_getElem? (i := 43) rfl))
theorem z_max (T : Tx K mg) : mg "max" = none := T.free _ (T.says.fact (List.mem_of_getElem? (i := 44) rfl))
theorem z_divmod (T : Tx K mg) : mg "divmod" = none := T.free _ (T.says.fact (List.mem_of_getElem? (i := 45) rfl))
theorem z_list (T : Tx K mg) : mg "list" = none := T.free _ (T.says.fact (List.mem_of_getElem? (i := 46) rfl))
theorem z_all (T : Tx K mg) : mg "all" = none := T.free _ (T.says.fact (List.mem_of_getElem? (i := 47) rfl))
theorem z_min (T : Tx K mg) : mg "min" = none := T.free _ (T.says.fact (List.mem_of_getElem? (i := 48) rfl))
theorem c_History (T : Tx K mg) : Cls K (ga K "History") := bCls_ok (T.says.fact (List.mem_of_getElem? (i := 49) rfl))
theorem n_History__edits (T : Tx K mg) : NoAttr K (ga K "History") "_edits" := eqO_ok (T.says.fact (List.mem_of_getElem? (i := 50) rfl))
theorem k_History (T : Tx K mg) : Mk K (ga K "History") (ma K (ga K "History") "__init__") := bMkr_ok (T.says.fact (List.mem_of_getElem? (i := 51) rfl))
theorem m_History_init (T : Tx K mg) : Meth K (ga K "History") "__init__" (ma K (ga K "History") "__init__") := bMeth_ok (T.says.fact (List.mem_of_getElem? (i := 52) rfl))
theorem p_History_moment (T : Tx K mg) : PropOf K (ga K "History") "moment" (ma K (ga K "History") "moment") (pg K "History" "moment") := bProp_ok (T.says.fact (List.mem_of_getElem? (i := 53) rfl))
theorem m_History_len (T : Tx K mg) : Meth K (ga K "History") "__len__" (ma K (ga K "History") "__len__") := bMeth_ok (T.says.fact (List.mem_of_getElem? (i := 54) rfl))
theorem m_History_getitem (T : Tx K mg) : Meth K (ga K "History") "__getitem__" (ma K (ga K "History") "__getitem__") := bMeth_ok (T.says.fact (List.mem_of_getElem? (i := 55) rfl))
theorem m_History_iter (T : Tx K mg) : Meth K (ga K "History") "__iter__" (ma K (ga K "History") "__iter__") := bMeth_ok (T.says.fact (List.mem_of_getElem? (i := 56) rfl))
theorem m_History_until (T : Tx K mg) : Meth K (ga K "History") "until" (ma K (ga K "History") "until") := bMeth_ok (T.says.fact (List.mem_of_getElem? (i := 57) rfl))
theorem m_History_add (T : Tx K mg) : Meth K (ga K "History") "__add__" (ma K (ga K "History") "__add__") := bMeth_ok (T.says.fact (List.mem_of_getElem? (i := 58) rfl))
theorem b_History_Add (T : Tx K mg) : BinOwn K .Add (ga K "History") (ma K (ga K "History") "__add__") := bBin_ok rfl (T.says.fact (List.mem_of_getElem? (i := 59) rfl))
theorem bt_History_Add_tuple (T : Tx K mg) : BinTy K .Add (ga K "History") "tuple" := bBinT_ok (T.says.fact (List.mem_of_getElem? (i := 60) rfl))
theorem bt_History_Add_list (T : Tx K mg) : BinTy K .Add (ga K "History") "list" := bBinT_ok (T.says.fact (List.mem_of_getElem? (i := 61) rfl))
theorem bt_History_Add_int (T : Tx K mg) : BinTy K .Add (ga K "History") "int" := bBinT_ok (T.says.fact (List.mem_of_getElem? (i := 62) rfl))
theorem bt_History_Add_str (T : Tx K mg) : BinTy K .Add (ga K "History") "str" := bBinT_ok (T.says.fact (List.mem_of_getElem? (i := 63) rfl))
theorem bt_History_Add_NoneType (T : Tx K mg) : BinTy K .Add (ga K "History") "NoneType" := bBinT_ok (T.says.fact (List.mem_of_getElem? (i := 64) rfl))
theorem bt_History_Add_bool (T : Tx K mg) : BinTy K .Add (ga K "History") "bool" := bBinT_ok (T.says.fact (List.mem_of_getElem? (i := 65) rfl))
theorem bt_History_Add_dict (T : Tx K mg) : BinTy K .Add (ga K "History") "dict" := bBinT_ok (T.says.fact (List.mem_of_getElem? (i := 66) rfl))
theorem m_History_touches (T : Tx K mg) : Meth K (ga K "History") "touches" (ma K (ga K "History") "touches") := bMeth_ok (T.says.fact (List.mem_of_getElem? (i := 67) rfl))
theorem m_History_version (T : Tx K mg) : Meth K (ga K "History") "version" (ma K (ga K "History") "version") := bMeth_ok (T.says.fact (List.mem_of_getElem? (i := 68) rfl))
theorem m_History_versions (T : Tx K mg) : Meth K (ga K "History") "versions" (ma K (ga K "History") "versions") := bMeth_ok (T.says.fact (List.mem_of_getElem? (i := 69) rfl))
theorem m_History_stands (T : Tx K mg) : Meth K (ga K "History") "stands" (ma K (ga K "History") "stands") := bMeth_ok (T.says.fact (List.mem_of_getElem? (i := 70) rfl))
theorem m_History_eq (T : Tx K mg) : Meth K (ga K "History") "__eq__" (ma K (ga K "History") "__eq__") := bMeth_ok (T.says.fact (List.mem_of_getElem? (i := 71) rfl))
theorem eq_History (T : Tx K mg) : EqOwn K (ga K "History") (ma K (ga K "History") "__eq__") := bEqOwn_ok (T.says.fact (List.mem_of_getElem? (i := 72) rfl))
theorem m_History_repr (T : Tx K mg) : Meth K (ga K "History") "__repr__" (ma K (ga K "History") "__repr__") := bMeth_ok (T.says.fact (List.mem_of_getElem? (i := 73) rfl))
theorem ty_History (T : Tx K mg) : TypOwn K (ga K "History") := bTyp_ok (T.says.fact (List.mem_of_getElem? (i := 74) rfl))
theorem no_History_tuple (T : Tx K mg) : PySem.W.subIn K (.type "tuple") (.ref (ga K "History")) = some false := of_decide_eq_true (T.says.fact (List.mem_of_getElem? (i := 75) rfl))
theorem no_History_list (T : Tx K mg) : PySem.W.subIn K (.type "list") (.ref (ga K "History")) = some false := of_decide_eq_true (T.says.fact (List.mem_of_getElem? (i := 76) rfl))
theorem no_History_int (T : Tx K mg) : PySem.W.subIn K (.type "int") (.ref (ga K "History")) = some false := of_decide_eq_true (T.says.fact (List.mem_of_getElem? (i := 77) rfl))
theorem no_History_str (T : Tx K mg) : PySem.W.subIn K (.type "str") (.ref (ga K "History")) = some false := of_decide_eq_true (T.says.fact (List.mem_of_getElem? (i := 78) rfl))
theorem no_History_NoneType (T : Tx K mg) : PySem.W.subIn K (.type "NoneType") (.ref (ga K "History")) = some false := of_decide_eq_true (T.says.fact (List.mem_of_getElem? (i := 79) rfl))
theorem no_History_bool (T : Tx K mg) : PySem.W.subIn K (.type "bool") (.ref (ga K "History")) = some false := of_decide_eq_true (T.says.fact (List.mem_of_getElem? (i := 80) rfl))
theorem no_History_dict (T : Tx K mg) : PySem.W.subIn K (.type "dict") (.ref (ga K "History")) = some false := of_decide_eq_true (T.says.fact (List.mem_of_getElem? (i := 81) rfl))
theorem F__wall (T : Tx K mg) : ∃ fd, FunD K "_wall" "_wall" (defArgs s__wall) (defBody s__wall) (defScope s__wall) [] [] (ga K "_wall") fd := T.says.def_ 0 rfl
theorem kp__wall (T : Tx K mg) : PySem.W.keepIn K (.ref (ga K "_wall")) = true := (F__wall T).elim fun _ F => F.kp
theorem F_InvalidCell_init (T : Tx K mg) : ∃ fd, FunD K "__init__" "InvalidCell.__init__" (defArgs s_InvalidCell_init) (defBody s_InvalidCell_init) (defScope s_InvalidCell_init) [] [] (ma K (ga K "InvalidCell") "__init__") fd := T.says.def_ 1 rfl
theorem kp_InvalidCell_init (T : Tx K mg) : PySem.W.keepIn K (.ref (ma K (ga K "InvalidCell") "__init__")) = true := (F_InvalidCell_init T).elim fun _ F => F.kp
theorem F_InvalidStretch_init (T : Tx K mg) : ∃ fd, FunD K "__init__" "InvalidStretch.__init__" (defArgs s_InvalidStretch_init) (defBody s_InvalidStretch_init) (defScope s_InvalidStretch_init) [] [] (ma K (ga K "InvalidStretch") "__init__") fd := T.says.def_ 2 rfl
theorem kp_InvalidStretch_init (T : Tx K mg) : PySem.W.keepIn K (.ref (ma K (ga K "InvalidStretch") "__init__")) = true := (F_InvalidStretch_init T).elim fun _ F => F.kp
theorem F_InvalidStretches_init (T : Tx K mg) : ∃ fd, FunD K "__init__" "InvalidStretches.__init__" (defArgs s_InvalidStretches_init) (defBody s_InvalidStretches_init) (defScope s_InvalidStretches_init) [] [] (ma K (ga K "InvalidStretches") "__init__") fd := T.says.def_ 3 rfl
theorem kp_InvalidStretches_init (T : Tx K mg) : PySem.W.keepIn K (.ref (ma K (ga K "InvalidStretches") "__init__")) = true := (F_InvalidStretches_init T).elim fun _ F => F.kp
theorem F_InvalidMoment_init (T : Tx K mg) : ∃ fd, FunD K "__init__" "InvalidMoment.__init__" (defArgs s_InvalidMoment_init) (defBody s_InvalidMoment_init) (defScope s_InvalidMoment_init) [] [] (ma K (ga K "InvalidMoment") "__init__") fd := T.says.def_ 4 rfl
theorem kp_InvalidMoment_init (T : Tx K mg) : PySem.W.keepIn K (.ref (ma K (ga K "InvalidMoment") "__init__")) = true := (F_InvalidMoment_init T).elim fun _ F => F.kp
theorem F_InvalidEdit_init (T : Tx K mg) : ∃ fd, FunD K "__init__" "InvalidEdit.__init__" (defArgs s_InvalidEdit_init) (defBody s_InvalidEdit_init) (defScope s_InvalidEdit_init) [] [] (ma K (ga K "InvalidEdit") "__init__") fd := T.says.def_ 5 rfl
theorem kp_InvalidEdit_init (T : Tx K mg) : PySem.W.keepIn K (.ref (ma K (ga K "InvalidEdit") "__init__")) = true := (F_InvalidEdit_init T).elim fun _ F => F.kp
theorem F_WrongVersion_init (T : Tx K mg) : ∃ fd, FunD K "__init__" "WrongVersion.__init__" (defArgs s_WrongVersion_init) (defBody s_WrongVersion_init) (defScope s_WrongVersion_init) [] [] (ma K (ga K "WrongVersion") "__init__") fd := T.says.def_ 6 rfl
theorem kp_WrongVersion_init (T : Tx K mg) : PySem.W.keepIn K (.ref (ma K (ga K "WrongVersion") "__init__")) = true := (F_WrongVersion_init T).elim fun _ F => F.kp
theorem F_is_integer (T : Tx K mg) : ∃ fd, FunD K "is_integer" "is_integer" (defArgs s_is_integer) (defBody s_is_integer) (defScope s_is_integer) [] [] (ga K "is_integer") fd := T.says.def_ 7 rfl
theorem kp_is_integer (T : Tx K mg) : PySem.W.keepIn K (.ref (ga K "is_integer")) = true := (F_is_integer T).elim fun _ F => F.kp
theorem F_is_count (T : Tx K mg) : ∃ fd, FunD K "is_count" "is_count" (defArgs s_is_count) (defBody s_is_count) (defScope s_is_count) [] [] (ga K "is_count") fd := T.says.def_ 8 rfl
theorem kp_is_count (T : Tx K mg) : PySem.W.keepIn K (.ref (ga K "is_count")) = true := (F_is_count T).elim fun _ F => F.kp
theorem F_is_couple (T : Tx K mg) : ∃ fd, FunD K "is_couple" "is_couple" (defArgs s_is_couple) (defBody s_is_couple) (defScope s_is_couple) [] [] (ga K "is_couple") fd := T.says.def_ 9 rfl
theorem kp_is_couple (T : Tx K mg) : PySem.W.keepIn K (.ref (ga K "is_couple")) = true := (F_is_couple T).elim fun _ F => F.kp
theorem F_is_stretch (T : Tx K mg) : ∃ fd, FunD K "is_stretch" "is_stretch" (defArgs s_is_stretch) (defBody s_is_stretch) (defScope s_is_stretch) [] [] (ga K "is_stretch") fd := T.says.def_ 10 rfl
theorem kp_is_stretch (T : Tx K mg) : PySem.W.keepIn K (.ref (ga K "is_stretch")) = true := (F_is_stretch T).elim fun _ F => F.kp
theorem F_check_cell (T : Tx K mg) : ∃ fd, FunD K "check_cell" "check_cell" (defArgs s_check_cell) (defBody s_check_cell) (defScope s_check_cell) [] [] (ga K "check_cell") fd := T.says.def_ 11 rfl
theorem kp_check_cell (T : Tx K mg) : PySem.W.keepIn K (.ref (ga K "check_cell")) = true := (F_check_cell T).elim fun _ F => F.kp
theorem F_check_moment (T : Tx K mg) : ∃ fd, FunD K "check_moment" "check_moment" (defArgs s_check_moment) (defBody s_check_moment) (defScope s_check_moment) [] [] (ga K "check_moment") fd := T.says.def_ 12 rfl
theorem kp_check_moment (T : Tx K mg) : PySem.W.keepIn K (.ref (ga K "check_moment")) = true := (F_check_moment T).elim fun _ F => F.kp
theorem F_check_edit (T : Tx K mg) : ∃ fd, FunD K "check_edit" "check_edit" (defArgs s_check_edit) (defBody s_check_edit) (defScope s_check_edit) [] [] (ga K "check_edit") fd := T.says.def_ 13 rfl
theorem kp_check_edit (T : Tx K mg) : PySem.W.keepIn K (.ref (ga K "check_edit")) = true := (F_check_edit T).elim fun _ F => F.kp
theorem F__touched (T : Tx K mg) : ∃ fd, FunD K "_touched" "_touched" (defArgs s__touched) (defBody s__touched) (defScope s__touched) [] [] (ga K "_touched") fd := T.says.def_ 14 rfl
theorem kp__touched (T : Tx K mg) : PySem.W.keepIn K (.ref (ga K "_touched")) = true := (F__touched T).elim fun _ F => F.kp
theorem F__listed (T : Tx K mg) : ∃ fd, FunD K "_listed" "_listed" (defArgs s__listed) (defBody s__listed) (defScope s__listed) [] [] (ga K "_listed") fd := T.says.def_ 15 rfl
theorem kp__listed (T : Tx K mg) : PySem.W.keepIn K (.ref (ga K "_listed")) = true := (F__listed T).elim fun _ F => F.kp
theorem F_History_init (T : Tx K mg) : ∃ fd, FunD K "__init__" "History.__init__" (defArgs s_History_init) (defBody s_History_init) (defScope s_History_init) [] [] (ma K (ga K "History") "__init__") fd := T.says.def_ 16 rfl
theorem kp_History_init (T : Tx K mg) : PySem.W.keepIn K (.ref (ma K (ga K "History") "__init__")) = true := (F_History_init T).elim fun _ F => F.kp
theorem F_History_of_cells (T : Tx K mg) : ∃ fd, FunD K "of_cells" "History.of_cells" (defArgs s_History_of_cells) (defBody s_History_of_cells) (defScope s_History_of_cells) [] [] (He5.wf K (ga K "History") "classmethod" "of_cells") fd := T.says.def_ 17 rfl
theorem kp_History_of_cells (T : Tx K mg) : PySem.W.keepIn K (.ref (He5.wf K (ga K "History") "classmethod" "of_cells")) = true := (F_History_of_cells T).elim fun _ F => F.kp
theorem F_History_moment (T : Tx K mg) : ∃ fd, FunD K "moment" "History.moment" (defArgs s_History_moment) (defBody s_History_moment) (defScope s_History_moment) [] [] (pg K "History" "moment") fd := T.says.def_ 18 rfl
theorem kp_History_moment (T : Tx K mg) : PySem.W.keepIn K (.ref (pg K "History" "moment")) = true := (F_History_moment T).elim fun _ F => F.kp
theorem F_History_len (T : Tx K mg) : ∃ fd, FunD K "__len__" "History.__len__" (defArgs s_History_len) (defBody s_History_len) (defScope s_History_len) [] [] (ma K (ga K "History") "__len__") fd := T.says.def_ 19 rfl
theorem kp_History_len (T : Tx K mg) : PySem.W.keepIn K (.ref (ma K (ga K "History") "__len__")) = true := (F_History_len T).elim fun _ F => F.kp
theorem F_History_getitem (T : Tx K mg) : ∃ fd, FunD K "__getitem__" "History.__getitem__" (defArgs s_History_getitem) (defBody s_History_getitem) (defScope s_History_getitem) [] [] (ma K (ga K "History") "__getitem__") fd := T.says.def_ 20 rfl
theorem kp_History_getitem (T : Tx K mg) : PySem.W.keepIn K (.ref (ma K (ga K "History") "__getitem__")) = true := (F_History_getitem T).elim fun _ F => F.kp
theorem F_History_iter (T : Tx K mg) : ∃ fd, FunD K "__iter__" "History.__iter__" (defArgs s_History_iter) (defBody s_History_iter) (defScope s_History_iter) [] [] (ma K (ga K "History") "__iter__") fd := T.says.def_ 21 rfl
theorem kp_History_iter (T : Tx K mg) : PySem.W.keepIn K (.ref (ma K (ga K "History") "__iter__")) = true := (F_History_iter T).elim fun _ F => F.kp
theorem F_History_until (T : Tx K mg) : ∃ fd, FunD K "until" "History.until" (defArgs s_History_until) (defBody s_History_until) (defScope s_History_until) [] [] (ma K (ga K "History") "until") fd := T.says.def_ 22 rfl
theorem kp_History_until (T : Tx K mg) : PySem.W.keepIn K (.ref (ma K (ga K "History") "until")) = true := (F_History_until T).elim fun _ F => F.kp
theorem F_History_add (T : Tx K mg) : ∃ fd, FunD K "__add__" "History.__add__" (defArgs s_History_add) (defBody s_History_add) (defScope s_History_add) [] [] (ma K (ga K "History") "__add__") fd := T.says.def_ 23 rfl
theorem kp_History_add (T : Tx K mg) : PySem.W.keepIn K (.ref (ma K (ga K "History") "__add__")) = true := (F_History_add T).elim fun _ F => F.kp
theorem F_History_touches (T : Tx K mg) : ∃ fd, FunD K "touches" "History.touches" (defArgs s_History_touches) (defBody s_History_touches) (defScope s_History_touches) [] [] (ma K (ga K "History") "touches") fd := T.says.def_ 24 rfl
theorem kp_History_touches (T : Tx K mg) : PySem.W.keepIn K (.ref (ma K (ga K "History") "touches")) = true := (F_History_touches T).elim fun _ F => F.kp
theorem F_History_version (T : Tx K mg) : ∃ fd, FunD K "version" "History.version" (defArgs s_History_version) (defBody s_History_version) (defScope s_History_version) [(He.Dv.v K (.non))] [] (ma K (ga K "History") "version") fd := T.says.def_ 25 rfl
theorem kp_History_version (T : Tx K mg) : PySem.W.keepIn K (.ref (ma K (ga K "History") "version")) = true := (F_History_version T).elim fun _ F => F.kp
theorem F_History_versions (T : Tx K mg) : ∃ fd, FunD K "versions" "History.versions" (defArgs s_History_versions) (defBody s_History_versions) (defScope s_History_versions) [] [] (ma K (ga K "History") "versions") fd := T.says.def_ 26 rfl
theorem kp_History_versions (T : Tx K mg) : PySem.W.keepIn K (.ref (ma K (ga K "History") "versions")) = true := (F_History_versions T).elim fun _ F => F.kp
theorem F_History_stands (T : Tx K mg) : ∃ fd, FunD K "stands" "History.stands" (defArgs s_History_stands) (defBody s_History_stands) (defScope s_History_stands) [] [] (ma K (ga K "History") "stands") fd := T.says.def_ 27 rfl
theorem kp_History_stands (T : Tx K mg) : PySem.W.keepIn K (.ref (ma K (ga K "History") "stands")) = true := (F_History_stands T).elim fun _ F => F.kp
theorem F_History_eq (T : Tx K mg) : ∃ fd, FunD K "__eq__" "History.__eq__" (defArgs s_History_eq) (defBody s_History_eq) (defScope s_History_eq) [] [] (ma K (ga K "History") "__eq__") fd := T.says.def_ 28 rfl
theorem kp_History_eq (T : Tx K mg) : PySem.W.keepIn K (.ref (ma K (ga K "History") "__eq__")) = true := (F_History_eq T).elim fun _ F => F.kp
theorem F_History_repr (T : Tx K mg) : ∃ fd, FunD K "__repr__" "History.__repr__" (defArgs s_History_repr) (defBody s_History_repr) (defScope s_History_repr) [] [] (ma K (ga K "History") "__repr__") fd := T.says.def_ 29 rfl
theorem kp_History_repr (T : Tx K mg) : PySem.W.keepIn K (.ref (ma K (ga K "History") "__repr__")) = true := (F_History_repr T).elim fun _ F => F.kp
theorem F__law_pot (T : Tx K mg) : ∃ fd, FunD K "_law_pot" "_law_pot" (defArgs s__law_pot) (defBody s__law_pot) (defScope s__law_pot) [] [] (ga K "_law_pot") fd := T.says.def_ 30 rfl
theorem kp__law_pot (T : Tx K mg) : PySem.W.keepIn K (.ref (ga K "_law_pot")) = true := (F__law_pot T).elim fun _ F => F.kp
theorem F__law_draw (T : Tx K mg) : ∃ fd, FunD K "_law_draw" "_law_draw" (defArgs s__law_draw) (defBody s__law_draw) (defScope s__law_draw) [] [] (ga K "_law_draw") fd := T.says.def_ 31 rfl
theorem kp__law_draw (T : Tx K mg) : PySem.W.keepIn K (.ref (ga K "_law_draw")) = true := (F__law_draw T).elim fun _ F => F.kp
theorem F__law_pick (T : Tx K mg) : ∃ fd, FunD K "_law_pick" "_law_pick" (defArgs s__law_pick) (defBody s__law_pick) (defScope s__law_pick) [] [] (ga K "_law_pick") fd := T.says.def_ 32 rfl
theorem kp__law_pick (T : Tx K mg) : PySem.W.keepIn K (.ref (ga K "_law_pick")) = true := (F__law_pick T).elim fun _ F => F.kp
theorem F__law_base (T : Tx K mg) : ∃ fd, FunD K "_law_base" "_law_base" (defArgs s__law_base) (defBody s__law_base) (defScope s__law_base) [] [] (ga K "_law_base") fd := T.says.def_ 33 rfl
theorem kp__law_base (T : Tx K mg) : PySem.W.keepIn K (.ref (ga K "_law_base")) = true := (F__law_base T).elim fun _ F => F.kp
theorem F__law_rows (T : Tx K mg) : ∃ fd, FunD K "_law_rows" "_law_rows" (defArgs s__law_rows) (defBody s__law_rows) (defScope s__law_rows) [] [] (ga K "_law_rows") fd := T.says.def_ 34 rfl
theorem kp__law_rows (T : Tx K mg) : PySem.W.keepIn K (.ref (ga K "_law_rows")) = true := (F__law_rows T).elim fun _ F => F.kp
theorem F__law_past (T : Tx K mg) : ∃ fd, FunD K "_law_past" "_law_past" (defArgs s__law_past) (defBody s__law_past) (defScope s__law_past) [] [] (ga K "_law_past") fd := T.says.def_ 35 rfl
theorem kp__law_past (T : Tx K mg) : PySem.W.keepIn K (.ref (ga K "_law_past")) = true := (F__law_past T).elim fun _ F => F.kp
theorem F__law_told (T : Tx K mg) : ∃ fd, FunD K "_law_told" "_law_told" (defArgs s__law_told) (defBody s__law_told) (defScope s__law_told) [] [] (ga K "_law_told") fd := T.says.def_ 36 rfl
theorem kp__law_told (T : Tx K mg) : PySem.W.keepIn K (.ref (ga K "_law_told")) = true := (F__law_told T).elim fun _ F => F.kp
theorem F__law_behind (T : Tx K mg) : ∃ fd, FunD K "_law_behind" "_law_behind" (defArgs s__law_behind) (defBody s__law_behind) (defScope s__law_behind) [] [] (ga K "_law_behind") fd := T.says.def_ 37 rfl
theorem kp__law_behind (T : Tx K mg) : PySem.W.keepIn K (.ref (ga K "_law_behind")) = true := (F__law_behind T).elim fun _ F => F.kp
theorem F__law_grown_right (T : Tx K mg) : ∃ fd, FunD K "_law_grown_right" "_law_grown_right" (defArgs s__law_grown_right) (defBody s__law_grown_right) (defScope s__law_grown_right) [] [] (ga K "_law_grown_right") fd := T.says.def_ 38 rfl
theorem kp__law_grown_right (T : Tx K mg) : PySem.W.keepIn K (.ref (ga K "_law_grown_right")) = true := (F__law_grown_right T).elim fun _ F => F.kp
theorem F__law_other_strip (T : Tx K mg) : ∃ fd, FunD K "_law_other_strip" "_law_other_strip" (defArgs s__law_other_strip) (defBody s__law_other_strip) (defScope s__law_other_strip) [] [] (ga K "_law_other_strip") fd := T.says.def_ 39 rfl
theorem kp__law_other_strip (T : Tx K mg) : PySem.W.keepIn K (.ref (ga K "_law_other_strip")) = true := (F__law_other_strip T).elim fun _ F => F.kp
theorem F__law_strips_right (T : Tx K mg) : ∃ fd, FunD K "_law_strips_right" "_law_strips_right" (defArgs s__law_strips_right) (defBody s__law_strips_right) (defScope s__law_strips_right) [] [] (ga K "_law_strips_right") fd := T.says.def_ 40 rfl
theorem kp__law_strips_right (T : Tx K mg) : PySem.W.keepIn K (.ref (ga K "_law_strips_right")) = true := (F__law_strips_right T).elim fun _ F => F.kp
theorem F__law_right (T : Tx K mg) : ∃ fd, FunD K "_law_right" "_law_right" (defArgs s__law_right) (defBody s__law_right) (defScope s__law_right) [] [] (ga K "_law_right") fd := T.says.def_ 41 rfl
theorem kp__law_right (T : Tx K mg) : PySem.W.keepIn K (.ref (ga K "_law_right")) = true := (F__law_right T).elim fun _ F => F.kp
theorem F_law (T : Tx K mg) : ∃ fd, FunD K "law" "law" (defArgs s_law) (defBody s_law) (defScope s_law) [] [] (ga K "law") fd := T.says.def_ 42 rfl
theorem kp_law (T : Tx K mg) : PySem.W.keepIn K (.ref (ga K "law")) = true := (F_law T).elim fun _ F => F.kp
theorem get_History (T : Tx K mg) : GetOwn K (ga K "History") (ma K (ga K "History") "__getitem__") := ⟨(m_History_getitem T).at_, (F_History_getitem T).elim fun _ F => fnIn_of F, (m_History_getitem T).fn⟩
end
end Hd

set_option Elab.async false
set_option linter.all false
set_option maxRecDepth 100000
namespace Hd
open PySem PySem.Spec PyProof.Rows L2 He Lw
set_option maxHeartbeats 0 in
theorem run (w : World) : HandSHeadRun.RunEq R (PySem.W.view R.prog [ilaw]) hk ob 4000 loose w := by
  intro os
  kernel_rfl
end Hd

set_option Elab.async false
set_option linter.all false
set_option maxRecDepth 100000
set_option maxHeartbeats 4000000
namespace Hd
open PySem PySem.Spec PyProof.Rows L2 He Lw StX
open Lw.En (enc)
local macro_rules | `(tactic| walk_at "vc") => `(tactic| simp only [tSeq, tAsg, tRet, tRetN, tDrop, tNext, tIfS, tNever, tVar, tC, tOp, tUn, tTest, tB, tNot, tAnd, tOr, tAndV, tOrV, tNotV, tIf, tChain, tCmp, t2I, tCB, tCons, tNil, tTup, tLst, tMC, tFld, sFld, tPr, gName, wipe, List.foldl_cons, List.foldl_nil, tYes, iTup, iList, iEnum, iEnumT, iEnumK, iRng1, iRng2, iRng3, gNil, gCons, gTup, gUnl, gSub, tPar, rI, rI0, rU, tIsN, tNotN, tSl, tPart, tNoPart, tThen, rMk, tStar, tBM, tM1,
  assignEach, cxOf, L2.start, List.map_cons, List.map_nil, List.length_cons, List.length_nil, List.replicate, List.cons_append, List.nil_append, List.getElem?_cons_zero, List.getElem?_cons_succ, List.set_cons_zero, List.set_cons_succ, Option.some.injEq, V.int.injEq, V.bl.injEq, V.ref.injEq, V.str.injEq, exists_eq_left', exists_eq_left, exists_eq_right', exists_eq_right, exists_and_left, exists_and_right, true_and, and_true, List.cons.injEq, List.cons_ne_nil, reduceCtorEq, false_and, and_false, exists_false, if_true, if_false, Bool.false_eq_true, Bool.true_eq_false, eq_self, forall_eq, forall_eq', rEq_int, rNe_int, rEq_str, rNe_str])

variable {P : Program} {w : World} {K : Frag} {mg : Str → Option Value} {base : Heap}
def P_is_integer (_ : Frag) : Sp := sp1 fun x H Q _ => ∃ S d, Dx S H x d ∧ Q (.bl (isIntD d)) H
def P_is_count (_ : Frag) : Sp := sp1 fun x H Q _ => ∃ S d, Dx S H x d ∧ Q (.bl (isCntD d)) H
def P_is_couple (_ : Frag) : Sp := sp1 fun x H Q _ => ∃ S d, Dx S H x d ∧ Q (.bl (isCplD d)) H
def P_is_stretch (_ : Frag) : Sp := sp1 fun x H Q _ => ∃ S d, Dx S H x d ∧ Q (.bl (isStrD d)) H
def P_check_cell (_ : Frag) : Sp := sp1 fun x H Q _ => ∃ i, x = .int i ∧ Q .non H
def P_check_moment (_ : Frag) : Sp := sp2 fun x y H Q _ => ∃ i j, x = .int i ∧ y = .int j ∧ 0 ≤ i ∧ i ≤ j ∧ Q .non H
def P_check_edit (_ : Frag) : Sp := sp2 fun x y H Q _ => ∃ i j, x = .int i ∧ y = .int j ∧ 1 ≤ i ∧ i ≤ j ∧ Q .non H
def P__touched (_ : Frag) : Sp := sp2 fun x y H Q _ => ∃ S p c, De S H x (p : Int × Int) ∧ y = .int c ∧ Q (.bl (tch p c)) H
theorem sc_is_integer : FnScope ["value"] ["value"] (defScope s_is_integer) := ⟨rfl, rfl, rfl, by decide +kernel, rfl, by decide +kernel, by decide +kernel⟩
theorem G_is_integer (T : Tx K mg) : FnG P w K mg base CX0 1 (ga K "is_integer") (P_is_integer K) := by
  obtain ⟨fd, F⟩ := F_is_integer T
  have b : L2.Binds K fd ["value"] [] := F.bindsN fun _ _ _ _ _ _ us hl => match us, hl with | [_], _ => rfl
  refine fnG_pl F sc_is_integer b sp1_len fun cdv A outer s H vs Q E hr h => ?_
  have hu := hr.units
  have hu1 := hr.units1
  obtain ⟨x_value, rfl, h⟩ := h
  refine ⟨_, PSs.nox (pss_one (ps_ret (pe_and (pe_callB (call_isi) (by rfl) (z_isinstance T) PyProof.Rows.boot_isinstance (pa_cons (pv 0) (pa_cons (pe_bltn (v := .ty "int") rfl (z_int T) PyProof.Rows.boot_int rfl) pa_nil))) (pe_one (pe_not (pe_callB (call_isi) (by rfl) (z_isinstance T) PyProof.Rows.boot_isinstance (pa_cons (pv 0) (pa_cons (pe_bltn (v := .ty "bool") rfl (z_bool T) PyProof.Rows.boot_bool rfl) pa_nil)))))))), ?_⟩
  walk_at "vc"
  obtain ⟨S, d, hd, q⟩ := h
  refine rIsi_of hd (kit_int d) ⟨_, rfl, ?_⟩
  split
  · refine rIsi_of hd (kit_bool d) ⟨_, rfl, ?_⟩
    rename_i hc
    have e : (!isBoolD d) = isIntD d := by cases d <;> simp_all [isIntD, isBoolD]
    rw [e]
    exact q
  · rename_i hc
    have e : isIntD d = false := by cases d <;> simp_all [isIntD, isBoolD]
    rw [e] at q
    exact q
theorem sc_is_count : FnScope ["value"] ["value"] (defScope s_is_count) := ⟨rfl, rfl, rfl, by decide +kernel, rfl, by decide +kernel, by decide +kernel⟩
theorem G_is_count (T : Tx K mg) : FnG P w K mg base CX0 3 (ga K "is_count") (P_is_count K) := by
  obtain ⟨fd, F⟩ := F_is_count T
  have b : L2.Binds K fd ["value"] [] := F.bindsN fun _ _ _ _ _ _ us hl => match us, hl with | [_], _ => rfl
  refine fnG_pl F sc_is_count b sp1_len fun cdv A outer s H vs Q E hr h => ?_
  have hu := hr.units
  have hu1 := hr.units1
  obtain ⟨x_value, rfl, h⟩ := h
  refine ⟨_, PSs.nox (pss_one (ps_ret (pe_and (pe_c (call_g (G_is_integer T) (hr.mono (by decide)) pass0) (kp_is_integer T) rfl (g_is_integer T) (pa_cons (pv 0) pa_nil)) (pe_one (pe_cmpR op_ge (pv 0) pe_int (nomark _)))))), ?_⟩
  walk_at "vc"
  obtain ⟨S, d, hd, q⟩ := h
  refine ⟨_, rfl, S, d, hd, _, rfl, ?_⟩
  cases hd <;> simp only [isIntD, isCntD, if_true, if_false, Bool.false_eq_true] at q ⊢ <;> first | exact q | exact ⟨_, rfl, q⟩
theorem sc_is_couple : FnScope ["value"] ["value"] (defScope s_is_couple) := ⟨rfl, rfl, rfl, by decide +kernel, rfl, by decide +kernel, by decide +kernel⟩
theorem G_is_couple (T : Tx K mg) : FnG P w K mg base CX0 1 (ga K "is_couple") (P_is_couple K) := by
  obtain ⟨fd, F⟩ := F_is_couple T
  have b : L2.Binds K fd ["value"] [] := F.bindsN fun _ _ _ _ _ _ us hl => match us, hl with | [_], _ => rfl
  refine fnG_pl F sc_is_couple b sp1_len fun cdv A outer s H vs Q E hr h => ?_
  have hu := hr.units
  have hu1 := hr.units1
  obtain ⟨x_value, rfl, h⟩ := h
  refine ⟨_, PSs.nox (pss_one (ps_ret (pe_and (pe_callB (call_isi) (by rfl) (z_isinstance T) PyProof.Rows.boot_isinstance (pa_cons (pv 0) (pa_cons (pe_bltn (v := .ty "tuple") rfl (z_tuple T) PyProof.Rows.boot_tuple rfl) pa_nil))) (pe_one (pe_cmpR op_eq (pe_callB (call_len_seq) (by rfl) (z_len T) PySem.boot_len (pa_cons (pv 0) pa_nil)) pe_int (nomark _)))))), ?_⟩
  walk_at "vc"
  obtain ⟨S, d, hd, q⟩ := h
  refine rIsi_of hd (kit_tuple d) ⟨_, rfl, ?_⟩
  cases hd with
  | tup n e hA =>
    simp only [isTupD, if_true]
    refine ⟨_, rfl, _, .inr (SqT.of e), ?_⟩
    cases hA with
    | nil => exact q
    | cons h1 t =>
      cases t with
      | nil => exact q
      | cons h2 t =>
        cases t with
        | nil => exact q
        | cons h3 t =>
          simp only [isCplD] at q
          rw [decide_eq_false (by simp only [List.length_cons]; omega)]
          exact q
  | _ => simp only [isTupD, if_false, Bool.false_eq_true]; exact q
theorem sc_is_stretch : FnScope ["value", "first", "last"] ["value"] (defScope s_is_stretch) := ⟨rfl, rfl, rfl, by decide +kernel, rfl, by decide +kernel, by decide +kernel⟩
theorem G_is_stretch (T : Tx K mg) : FnG P w K mg base CX0 3 (ga K "is_stretch") (P_is_stretch K) := by
  obtain ⟨fd, F⟩ := F_is_stretch T
  have b : L2.Binds K fd ["value"] [] := F.bindsN fun _ _ _ _ _ _ us hl => match us, hl with | [_], _ => rfl
  refine fnG_pl F sc_is_stretch b sp1_len fun cdv A outer s H vs Q E hr h => ?_
  have hu := hr.units
  have hu1 := hr.units1
  obtain ⟨x_value, rfl, h⟩ := h
  refine ⟨_, PSs.nox (pss_cons (ps_if (pt_not (pt_val (pe_c (call_g (G_is_couple T) (hr.mono (by decide)) pass0) (kp_is_couple T) rfl (g_is_couple T) (pa_cons (pv 0) pa_nil)))) (pss_one (ps_ret pe_bl)) pss_nil)
    (pss_cons (ps_asg (pv 0) (pg_tupK (K := K) (n := 2) rfl rfl (pgs_cons (pg_name (i := 1) sc_is_stretch.nd rfl (by first | exact Or.inl rfl | exact Or.inr rfl)) (pgs_cons (pg_name (i := 2) sc_is_stretch.nd rfl (by first | exact Or.inl rfl | exact Or.inr rfl)) pgs_nil))))
    (pss_one (ps_ret (pe_and (pe_c (call_g (G_is_integer T) (hr.mono (by decide)) pass0) (kp_is_integer T) rfl (g_is_integer T) (pa_cons (pv 1) pa_nil)) (pe_and (pe_c (call_g (G_is_integer T) (hr.mono (by decide)) pass0) (kp_is_integer T) rfl (g_is_integer T) (pa_cons (pv 2) pa_nil)) (pe_one (pe_cmpR op_le (pv 1) (pv 2) (nomark _))))))))), ?_⟩
  walk_at "vc"
  obtain ⟨S, d, hd, q⟩ := h
  refine ⟨_, rfl, S, d, hd, _, rfl, ?_⟩
  cases hc : isCplD d with
  | false =>
    have e := not_cpl_str hc
    rw [e] at q
    simpa using q
  | true =>
    simp only [Bool.not_true, Bool.false_eq_true, if_false]
    cases hd with
    | tup n e hA =>
      cases hA with
      | nil => cases hc
      | cons h1 t =>
        cases t with
        | nil => cases hc
        | cons h2 t =>
          cases t with
          | cons h3 t => cases hc
          | nil =>
            refine ⟨_, rfl, _, SqT.of e, rfl, _, _, rfl, _, _, rfl, rfl, _, rfl, S, _, h1, _, rfl, ?_⟩
            cases h1 <;> simp only [isIntD, if_true, if_false, Bool.false_eq_true]
            case int i =>
              refine ⟨_, rfl, S, _, h2, _, rfl, ?_⟩
              cases h2 <;> simp only [isIntD, if_true, if_false, Bool.false_eq_true]
              case int j => exact ⟨_, rfl, _, rfl, q⟩
              all_goals exact q
            all_goals exact q
    | _ => cases hc
theorem sc_check_cell : FnScope ["cell"] ["cell"] (defScope s_check_cell) := ⟨rfl, rfl, rfl, by decide +kernel, rfl, by decide +kernel, by decide +kernel⟩
theorem G_check_cell (T : Tx K mg) : FnG P w K mg base CX0 3 (ga K "check_cell") (P_check_cell K) := by
  obtain ⟨fd, F⟩ := F_check_cell T
  have b : L2.Binds K fd ["cell"] [] := F.bindsN fun _ _ _ _ _ _ us hl => match us, hl with | [_], _ => rfl
  refine fnG_pl F sc_check_cell b sp1_len fun cdv A outer s H vs Q E hr h => ?_
  have hu := hr.units
  have hu1 := hr.units1
  obtain ⟨x_cell, rfl, h⟩ := h
  refine ⟨_, PSs.nox (pss_one (ps_if (pt_not (pt_val (pe_c (call_g (G_is_integer T) (hr.mono (by decide)) pass0) (kp_is_integer T) rfl (g_is_integer T) (pa_cons (pv 0) pa_nil)))) (pss_one ps_never) pss_nil)), ?_⟩
  walk_at "vc"
  obtain ⟨i, rfl, q⟩ := h
  exact ⟨_, rfl, [], _, .int i, _, rfl, q⟩
theorem sc_check_moment : FnScope ["moment", "last"] ["moment", "last"] (defScope s_check_moment) := ⟨rfl, rfl, rfl, by decide +kernel, rfl, by decide +kernel, by decide +kernel⟩
theorem G_check_moment (T : Tx K mg) : FnG P w K mg base CX0 5 (ga K "check_moment") (P_check_moment K) := by
  obtain ⟨fd, F⟩ := F_check_moment T
  have b : L2.Binds K fd ["moment", "last"] [] := F.bindsN fun _ _ _ _ _ _ us hl => match us, hl with | [_, _], _ => rfl
  refine fnG_pl F sc_check_moment b sp2_len fun cdv A outer s H vs Q E hr h => ?_
  have hu := hr.units
  have hu1 := hr.units1
  obtain ⟨x_moment, x_last, rfl, h⟩ := h
  refine ⟨_, PSs.nox (pss_one (ps_if (PW.pt (pw_or (pt_not (pt_val (pe_c (call_g (G_is_count T) (hr.mono (by decide)) pass0) (kp_is_count T) rfl (g_is_count T) (pa_cons (pv 0) pa_nil)))) (pw_or1 (pt_cmpR (op_gt) (pv 0) (pv 1) (nomark _))))) (pss_one ps_never) pss_nil)), ?_⟩
  walk_at "vc"
  obtain ⟨i, j, rfl, rfl, h0, h1, q⟩ := h
  refine ⟨_, rfl, [], _, .int i, _, rfl, ?_⟩
  simp only [isCntD, decide_eq_true h0, Bool.not_true, Bool.false_eq_true, if_false]
  refine ⟨_, rfl, _, rfl, ?_⟩
  rw [decide_eq_false (by omega)]
  exact q
theorem sc_check_edit : FnScope ["number", "last"] ["number", "last"] (defScope s_check_edit) := ⟨rfl, rfl, rfl, by decide +kernel, rfl, by decide +kernel, by decide +kernel⟩
theorem G_check_edit (T : Tx K mg) : FnG P w K mg base CX0 3 (ga K "check_edit") (P_check_edit K) := by
  obtain ⟨fd, F⟩ := F_check_edit T
  have b : L2.Binds K fd ["number", "last"] [] := F.bindsN fun _ _ _ _ _ _ us hl => match us, hl with | [_, _], _ => rfl
  refine fnG_pl F sc_check_edit b sp2_len fun cdv A outer s H vs Q E hr h => ?_
  have hu := hr.units
  have hu1 := hr.units1
  obtain ⟨x_number, x_last, rfl, h⟩ := h
  refine ⟨_, PSs.nox (pss_one (ps_if (PW.pt (pw_or (pt_not (pt_val (pe_c (call_g (G_is_integer T) (hr.mono (by decide)) pass0) (kp_is_integer T) rfl (g_is_integer T) (pa_cons (pv 0) pa_nil)))) (pw_or1 (pt_not (pt_chain op_le op_le pe_int (pv 0) (pv 1)))))) (pss_one ps_never) pss_nil)), ?_⟩
  walk_at "vc"
  obtain ⟨i, j, rfl, rfl, h0, h1, q⟩ := h
  refine ⟨_, rfl, [], _, .int i, _, rfl, ?_⟩
  simp only [isIntD, Bool.not_true, Bool.false_eq_true, if_false]
  refine ⟨_, rfl, ?_⟩
  rw [decide_eq_true h0, if_pos rfl]
  refine ⟨_, rfl, _, rfl, ?_⟩
  rw [decide_eq_true h1]
  exact q
theorem sc__touched : FnScope ["stretch", "cell", "first", "last"] ["stretch", "cell"] (defScope s__touched) := ⟨rfl, rfl, rfl, by decide +kernel, rfl, by decide +kernel, by decide +kernel⟩
theorem G__touched (T : Tx K mg) : FnG P w K mg base CX0 1 (ga K "_touched") (P__touched K) := by
  obtain ⟨fd, F⟩ := F__touched T
  have b : L2.Binds K fd ["stretch", "cell"] [] := F.bindsN fun _ _ _ _ _ _ us hl => match us, hl with | [_, _], _ => rfl
  refine fnG_pl F sc__touched b sp2_len fun cdv A outer s H vs Q E hr h => ?_
  have hu := hr.units
  have hu1 := hr.units1
  obtain ⟨x_stretch, x_cell, rfl, h⟩ := h
  refine ⟨_, PSs.nox (pss_cons (ps_asg (pv 0) (pg_tupK (K := K) (n := 2) rfl rfl (pgs_cons (pg_name (i := 2) sc__touched.nd rfl (by first | exact Or.inl rfl | exact Or.inr rfl)) (pgs_cons (pg_name (i := 3) sc__touched.nd rfl (by first | exact Or.inl rfl | exact Or.inr rfl)) pgs_nil))))
    (pss_one (ps_ret (pe_chain op_le op_le (pv 2) (pv 1) (pv 3))))), ?_⟩
  walk_at "vc"
  obtain ⟨S, p, c, hp, rfl, q⟩ := h
  obtain ⟨a, rfl, n, e⟩ := hp.ints
  refine ⟨_, rfl, _, SqT.of e, rfl, _, _, rfl, _, _, rfl, rfl, _, rfl, _, rfl, ?_⟩
  unfold tch at q
  cases hc : decide (p.1 ≤ c) with
  | true =>
    rw [hc] at q
    exact ⟨_, rfl, _, rfl, by simpa using q⟩
  | false =>
    rw [hc] at q
    simpa using q
end Hd

set_option Elab.async false
set_option linter.all false
set_option maxRecDepth 100000
set_option maxHeartbeats 4000000
namespace Hd
open PySem PySem.Spec PyProof.Rows L2 He Lw StX
open Lw.En (enc)
local macro_rules | `(tactic| walk_at "vc") => `(tactic| simp only [tSeq, tAsg, tRet, tRetN, tDrop, tNext, tIfS, tNever, tVar, tC, tOp, tUn, tTest, tB, tNot, tAnd, tOr, tAndV, tOrV, tNotV, tIf, tChain, tCmp, t2I, tCB, tCons, tNil, tTup, tLst, tMC, tFld, sFld, tPr, gName, wipe, List.foldl_cons, List.foldl_nil, tYes, iTup, iList, iEnum, iEnumT, iEnumK, iRng1, iRng2, iRng3, gNil, gCons, gTup, gUnl, gSub, tPar, rI, rI0, rU, tIsN, tNotN, tSl, tPart, tNoPart, tThen, rMk, tStar, tBM, tM1,
  assignEach, cxOf, L2.start, List.map_cons, List.map_nil, List.length_cons, List.length_nil, List.replicate, List.cons_append, List.nil_append, List.getElem?_cons_zero, List.getElem?_cons_succ, List.set_cons_zero, List.set_cons_succ, Option.some.injEq, V.int.injEq, V.bl.injEq, V.ref.injEq, V.str.injEq, exists_eq_left', exists_eq_left, exists_eq_right', exists_eq_right, exists_and_left, exists_and_right, true_and, and_true, List.cons.injEq, List.cons_ne_nil, reduceCtorEq, false_and, and_false, exists_false, if_true, if_false, Bool.false_eq_true, Bool.true_eq_false, eq_self, forall_eq, forall_eq', rEq_int, rNe_int, rEq_str, rNe_str])

variable {P : Program} {w : World} {K : Frag} {mg : Str → Option Value} {base : Heap}
/-- a history of the edits es -/
def Hist (K : Frag) (S : List Addr) (H : Hp) (v : V) (es : List (Int × Int)) : Prop :=
  ∃ a dx t xs, v = .ref a ∧ a ∉ S ∧ H a = some (.ins (ga K "History") dx [("_edits", .ref t)]) ∧ t ∉ S ∧ H t = some (.tup xs) ∧ DeA S H xs es
theorem Hist.keep {S : List Addr} {H H' : Hp} {v : V} {es : List (Int × Int)} (h : Hist K S H v es) (k : Kp S H H') : Hist K S H' v es := by
  obtain ⟨a, dx, t, xs, rfl, n, e, nt, et, d⟩ := h
  exact ⟨a, dx, t, xs, rfl, n, k _ _ n e, nt, k _ _ nt et, DxA.keep k d⟩
theorem Hist.keep0 {S : List Addr} {H H' : Hp} {v : V} {es : List (Int × Int)} (h : Hist K S H v es) (k : Kp [] H H') : Hist K S H' v es := h.keep k.of0
/-- all are stretches -/
def Ords (es : List (Int × Int)) : Prop := ∀ p ∈ es, p.1 ≤ p.2
def Bds (es : List (Int × Int)) : Prop := ∀ p ∈ es, Sm p.1 ∧ Sm p.2
def listed (es : List (Int × Int)) : Str := Txt.join ", " (es.map pairT)
def histT (es : List (Int × Int)) : Str := Str.empty ++ "History(" ++ listed es ++ ")"
theorem listed_sum {es : List (Int × Int)} (hb : Bds es) : ((es.map pairT).map fun x => x.length).sum ≤ 120 * es.length := by
  have h1 := sum_le (c := 120) (l := (es.map pairT).map fun x => x.length) (fun x hx => by
    obtain ⟨t, ht, rfl⟩ := List.mem_map.mp hx
    obtain ⟨r, hr, rfl⟩ := List.mem_map.mp ht
    exact (pair_len (hb r hr).1 (hb r hr).2).1)
  rw [List.length_map, List.length_map] at h1
  exact h1
theorem listed_len {es : List (Int × Int)} (hb : Bds es) (hz : es.length ≤ 1000) : (listed es).length ≤ 130000 := by
  have h := listed_sum hb
  unfold listed
  rw [join_len, List.length_map, show (Str.ofString ", ").length = 2 by decide +kernel]
  omega
/-- the last of the first n edits that touches c, 0 if there is none -/
def ver (es : List (Int × Int)) (c : Int) : Nat → Nat
  | 0 => 0
  | n + 1 => if (es[n]?.any fun p => tch p c) = true then n + 1 else ver es c n
/-- the numbers of the edits among the first n that touch c -/
def tchs (es : List (Int × Int)) (c : Int) : Nat → List Int
  | 0 => []
  | n + 1 => tchs es c n ++ (if (es[n]?.any fun p => tch p c) = true then [((n : Nat) : Int) + 1] else [])
def vers (es : List (Int × Int)) (c : Int) : List Int := 0 :: tchs es c es.length
/-- where a version stops standing -/
def stop (vs : List Int) (v m : Int) : Int := match vs.filter fun n => decide (v < n) with
  | [] => m
  | n :: _ => n
def P__listed (_ : Frag) : Sp := sp1 fun x H Q _ => ∃ S es, Old S H ∧ De S H x (Tu.mk es) ∧ es.length ≤ 1000 ∧ Bds es ∧ ∀ H', Kp [] H H' → Q (.str (listed es)) H'
def P_History_init (K : Frag) : Sp := sp2 fun x y H Q _ => ∃ S a dx es, Old S H ∧ x = .ref a ∧ H a = some (.ins (ga K "History") dx []) ∧ De [a] H y (Tu.mk es) ∧ Ords es ∧ es.length ≤ 1000000 ∧
  ∀ H' t xs, Kp [a] H H' → H' a = some (.ins (ga K "History") dx [("_edits", .ref t)]) → t ∉ S → H' t = some (.tup xs) → DeA S H' xs es → Q .non H'
def P_History_moment (K : Frag) : Sp := sp1 fun x H Q _ => ∃ S es, Hist K S H x es ∧ Q (.int (es.length : Int)) H
def P_History_getitem (K : Frag) : Sp := sp2 fun x y H Q _ => ∃ S es, ∃ n : Nat, ∃ p, Hist K S H x es ∧ y = .int ((n : Int) + 1) ∧ es[n]? = some p ∧ ∀ v, De S H v p → Q v H
def P_History_until (K : Frag) : Sp := sp2 fun x y H Q _ => ∃ S es, ∃ n : Nat, Old S H ∧ Hist K S H x es ∧ y = .int n ∧ n ≤ es.length ∧ Ords es ∧ es.length ≤ 1000 ∧ ∀ v H', Kp [] H H' → Hist K S H' v (es.take n) → Q v H'
def P_History_add (K : Frag) : Sp := sp2 fun x y H Q _ => ∃ S es p, Old S H ∧ Hist K S H x es ∧ De S H y p ∧ Ords es ∧ p.1 ≤ p.2 ∧ es.length ≤ 1000 ∧ ∀ v H', Kp [] H H' → Hist K S H' v (es ++ [p]) → Q v H'
def P_History_version (K : Frag) : Sp := sp3 fun x y z H Q _ => ∃ S es c, ∃ n : Nat, Hist K S H x es ∧ y = .int c ∧ ((z = .non ∧ n = es.length) ∨ z = .int n) ∧ n ≤ es.length ∧ es.length ≤ 1000 ∧ Q (.int (ver es c n)) H
def P_History_versions (K : Frag) : Sp := sp2 fun x y H Q _ => ∃ S es c, Old S H ∧ Hist K S H x es ∧ y = .int c ∧ es.length ≤ 1000 ∧ ∀ v H', Kp [] H H' → De S H' v (vers es c) → Q v H'
def P_History_stands (K : Frag) : Sp := sp3 fun x y z H Q _ => ∃ S es c v, Old S H ∧ Hist K S H x es ∧ y = .int c ∧ z = .int v ∧ v ∈ vers es c ∧ es.length ≤ 1000 ∧ ∀ u H', Kp [] H H' → De S H' u (v, stop (vers es c) v (es.length + 1)) → Q u H'
def P_History_eq (K : Frag) : Sp := sp2 fun x y H Q _ => ∃ S es S' es', Hist K S H x es ∧ Hist K S' H y es' ∧ Q (.bl (decide (es = es'))) H
def P_History_repr (K : Frag) : Sp := sp1 fun x H Q _ => ∃ S es, Old S H ∧ Hist K S H x es ∧ es.length ≤ 1000 ∧ Bds es ∧ ∀ H', Kp [] H H' → Q (.str (histT es)) H'
theorem sc__listed : FnScope ["stretches", "stretch"] ["stretches"] (defScope s__listed) := ⟨rfl, rfl, rfl, by decide +kernel, rfl, by decide +kernel, by decide +kernel⟩
theorem G__listed (T : Tx K mg) : FnG P w K mg base CX0 1 (ga K "_listed") (P__listed K) := by
  obtain ⟨fd, F⟩ := F__listed T
  have b : L2.Binds K fd ["stretches"] [] := F.bindsN fun _ _ _ _ _ _ us hl => match us, hl with | [_], _ => rfl
  refine fnG_pl F sc__listed b sp1_len fun cdv A outer s H vs Q E hr h => ?_
  have hu := hr.units
  have hu1 := hr.units1
  obtain ⟨x_stretches, rfl, h⟩ := h
  refine ⟨_, PSs.nox (pss_one (ps_ret (pe_join pe_str (pe_lc rfl sc__listed.nd (pi_tup (pv 0)) (blkOk_by (N := ["stretches", "stretch"]) (sc := defScope s__listed) (own := [("stretch", 1)]) (by decide +kernel)) (fun _ _ _ _ _ => (pg_name (i := 1) sc__listed.nd rfl (by first | exact Or.inl rfl | exact Or.inr rfl))) (fun _ _ _ _ _ => pts_nil) (fun _ _ _ _ _ => (pe_callB (call_reprD (K := K) rfl hr.gd hu) (by rfl) (z_repr T) PyProof.Rows.boot_repr (pa_cons (pv 1) pa_nil))))))), ?_⟩
  walk_at "vc"
  obtain ⟨S, es, oS, hx, hz, hb, q⟩ := h
  obtain ⟨a, xs, rfl, na, ea, d⟩ := hx.tu
  refine ⟨⟨_, rfl⟩, ?_⟩
  refine tLc_d H S [] (fun i => (es.take i).map pairT) (walk_tup (xs := xs)) (fun R hR => ⟨_, rfl, a, rfl, ⟨xs, SqT.of ea⟩, hR⟩) rfl (fun D i H' p => p.seqT subNil' ea) ?_ ?_
  · rintro D i x H1 _ hi p ⟨rfl, hx⟩
    walk_at "vc"
    obtain ⟨r, hr, dr⟩ := d.of hx
    have hm := hb r (List.mem_of_getElem? hr)
    have hlen := pair_len hm.1 hm.2
    refine ⟨x, enc r, rfl, (p.keep subNil dr).dp, pair_show hm.1 hm.2, ?_, Nat.le_trans (Py.dle r) (by decide), ?_⟩
    · show (pairT r).length ≤ sizeLine
      have := sizeLine_eq
      omega
    · refine p.put .refl Old.nil subNil (v := pairT r) (Dx.str _) (by rw [take_snoc hr, List.map_append]; rfl) ?_
      have := sizeLine_eq
      rw [List.length_map, List.length_take]
      omega
  · intro D H1 p
    obtain ⟨k, dv⟩ := p.done oS
    obtain ⟨b, ys, e, nb, eb, db⟩ := dv.ls
    cases e
    rw [d.len, List.take_length] at db
    have e2 := db.strs
    subst e2
    refine ⟨_, rfl, _, .inl (SqL.of eb), ?_, q _ k⟩
    have h1 := listed_sum hb
    rw [List.length_map, show (Str.ofString ", ").length = 2 by decide +kernel]
    omega
theorem sc_History_init : FnScope ["self", "stretches", "position", "stretch", "first", "last"] ["self", "stretches"] (defScope s_History_init) := ⟨rfl, rfl, rfl, by decide +kernel, rfl, by decide +kernel, by decide +kernel⟩
theorem G_History_init (T : Tx K mg) : FnG P w K mg base CX0 5 (ma K (ga K "History") "__init__") (spS 1 (P_History_init K)) := by
  obtain ⟨fd, F⟩ := F_History_init T
  refine fnG_star (sp := P_History_init K) (ps := ["self"]) (pv := "stretches") F sc_History_init StX.cxUp_none (fun b c d e f g => StX.bind_star1 (B := fun us => bindArgs (PySem.W.fnOf "__init__" "History.__init__" (defArgs s_History_init) (defBody s_History_init) (defScope s_History_init) .none b c d e f g) ⟨us, []⟩) (fun _ => rfl) (fun _ _ _ => rfl)) fun cdv A outer s H vs Q E hr h => ?_
  have hu := hr.units
  have hu1 := hr.units1
  obtain ⟨x_self, x_stretches, rfl, h⟩ := h
  refine ⟨_, PSs.nox (pss_cons (ps_for PassesOwn.never rfl (pi_enumT rfl (z_enumerate T) (pa_cons (pv 1) pa_nil)) (pg_tupK (K := K) (n := 2) rfl rfl (pgs_cons (pg_name (i := 2) sc_History_init.nd rfl (by first | exact Or.inl rfl | exact Or.inr rfl)) (pgs_cons (pg_name (i := 3) sc_History_init.nd rfl (by first | exact Or.inl rfl | exact Or.inr rfl)) pgs_nil)))
    (pss_one (ps_if (pt_not (pt_val (pe_c (call_g (G_is_stretch T) (hr.mono (by decide)) pass0) (kp_is_stretch T) rfl (g_is_stretch T) (pa_cons (pv 3) pa_nil)))) (pss_one ps_never) pss_nil)))
    (pss_one (ps_fld (pv 0) (pe_tupleOf rfl (z_tuple T) (pe_lc rfl sc_History_init.nd (pi_tup (pv 1)) (blkOk_by (N := ["self", "stretches", "position", "stretch", "first", "last"]) (sc := defScope s_History_init) (own := [("first", 4), ("last", 5)]) (by decide +kernel)) (fun _ _ _ _ _ => (pg_tupK (K := K) (n := 2) rfl rfl (pgs_cons (pg_name (i := 4) sc_History_init.nd rfl (by first | exact Or.inl rfl | exact Or.inr rfl)) (pgs_cons (pg_name (i := 5) sc_History_init.nd rfl (by first | exact Or.inl rfl | exact Or.inr rfl)) pgs_nil)))) (fun _ _ _ _ _ => pts_nil) (fun _ _ _ _ _ => (pe_tup (pa_cons (pv 4) (pa_cons (pv 5) pa_nil)))))) rfl))), ?_⟩
  walk_at "vc"
  obtain ⟨S, a, dx, es, oS, rfl, e, hp, ho, hz, q⟩ := h
  obtain ⟨p, xs, rfl, np, ep, hA⟩ := hp.tu
  have oS' : Old (a :: S) H := oS.cons e
  refine tFor_it H (walk_enumT (xs := xs)) (fun i σ H' => (∃ u v, σ = [some (.ref a), some (.ref p), u, v, none, none]) ∧ Kp [] H H') (fun R hR => ⟨_, rfl, _, _, rfl, SqT.of ep, hR⟩) ⟨⟨_, _, rfl⟩, .refl⟩ ?_ ?_ ?_
  · intro i σ H' hi ⟨_, k⟩
    exact SqT.of (k _ _ subNil' ep)
  · rintro i x σ H1 H2 hi ⟨⟨u, v, rfl⟩, k⟩ ⟨T, x1, y1, rfl, hT, rfl, h1, h2⟩
    walk_at "vc"
    obtain ⟨r, hr, dr⟩ := hA.of h2
    have dr2 : De [a] (upd H1 T (.tup [x1, y1])) y1 r := Dx.keep (k.trans (.new hT)).of0 dr
    obtain ⟨dd, hd, hs⟩ := strD dr2 (ho r (List.mem_of_getElem? hr))
    refine ⟨_, SqT.of upd_same, rfl, _, _, rfl, _, _, rfl, rfl, _, rfl, _, dd, hd, _, rfl, ?_⟩
    rw [hs]
    simp only [Bool.not_true, Bool.false_eq_true, if_false]
    exact ⟨⟨_, rfl⟩, k.trans (.new hT)⟩
  · rintro σ H1 ⟨⟨u, v, rfl⟩, k⟩
    walk_at "vc"
    have ep1 := k _ _ subNil' ep
    have oS1 := oS'.keep0 k
    refine tLc_d H1 (a :: S) [] (fun i => es.take i) (walk_tup (xs := xs)) (fun R hR => ⟨_, rfl, p, rfl, ⟨xs, SqT.of ep1⟩, hR⟩) rfl (fun D i H' p' => p'.seqT subNil' ep1) ?_ ?_
    · rintro D i x H2 _ hi pp ⟨rfl, hx⟩
      walk_at "vc"
      obtain ⟨r, hr, dr⟩ := hA.of hx
      obtain ⟨b, rfl, nb, eb⟩ := De.ints (Dx.keep k.of0 dr)
      refine ⟨_, rfl, _, pp.seqT subNil' eb, rfl, _, _, rfl, _, _, rfl, rfl, by decide, fun t ht => ?_⟩
      refine pp.put (.new ht) Old.nil subNil (v := r) (De.mk2 ((pp.old0 oS1).no ht) upd_same) (take_snoc hr) ?_
      have := sizeLine_eq
      rw [List.length_take]
      omega
    · intro D H2 pp
      obtain ⟨k2, dv⟩ := pp.done oS1
      obtain ⟨b, ys, e1, nb, eb, db⟩ := dv.ls
      cases e1
      rw [hA.len, List.take_length] at db
      refine .inl ⟨_, _, rfl, SqL.of eb, fun t ht => ?_⟩
      have ea2 : H2 a = some (.ins (ga K "History") dx []) := (k.trans k2) _ _ subNil' e
      have ea3 : upd H2 t (.tup ys) a = some (.ins (ga K "History") dx []) := (Kp.new (S := []) ht) _ _ subNil' ea2
      have nta : t ≠ a := fun z => by rw [z, ea2] at ht; cases ht
      have nt := (oS1.keep0 k2).no ht
      refine ⟨_, _, _, ea3, c_History T, n_History__edits T, by decide, q _ t ys ?_ ?_ ?_ ?_ ?_⟩
      · exact (((k.trans k2).trans (.new ht)).of0).trans (.mut (List.mem_singleton_self a))
      · rw [upd_same]; rfl
      · exact fun z => nt (List.mem_cons_of_mem _ z)
      · rw [upd_ne nta, upd_same]
      · exact DxA.sub (DxA.keep ((Kp.new ht).trans (.mut (List.mem_cons_self ..))) db) fun s z => List.mem_cons_of_mem _ z
theorem sc_History_moment : FnScope ["self"] ["self"] (defScope s_History_moment) := ⟨rfl, rfl, rfl, by decide +kernel, rfl, by decide +kernel, by decide +kernel⟩
theorem G_History_moment (T : Tx K mg) : FnG P w K mg base CX0 1 (pg K "History" "moment") (P_History_moment K) := by
  obtain ⟨fd, F⟩ := F_History_moment T
  have b : L2.Binds K fd ["self"] [] := F.bindsN fun _ _ _ _ _ _ us hl => match us, hl with | [_], _ => rfl
  refine fnG_pl F sc_History_moment b sp1_len fun cdv A outer s H vs Q E hr h => ?_
  have hu := hr.units
  have hu1 := hr.units1
  obtain ⟨x_self, rfl, h⟩ := h
  refine ⟨_, PSs.nox (pss_one (ps_ret (pe_callB (call_len_seq) (by rfl) (z_len T) PySem.boot_len (pa_cons (pe_fld (pv 0) rfl) pa_nil)))), ?_⟩
  walk_at "vc"
  obtain ⟨S, es, ⟨a, dx, t, xs, rfl, n, e, nt, et, d⟩, q⟩ := h
  refine ⟨_, rfl, _, _, _, e, c_History T, n_History__edits T, _, rfl, _, rfl, _, .inr (SqT.of et), ?_⟩
  rw [d.len]
  exact q
theorem sc_History_getitem : FnScope ["self", "at"] ["self", "at"] (defScope s_History_getitem) := ⟨rfl, rfl, rfl, by decide +kernel, rfl, by decide +kernel, by decide +kernel⟩
theorem G_History_getitem (T : Tx K mg) : FnG P w K mg base CX0 5 (ma K (ga K "History") "__getitem__") (P_History_getitem K) := by
  obtain ⟨fd, F⟩ := F_History_getitem T
  have b : L2.Binds K fd ["self", "at"] [] := F.bindsN fun _ _ _ _ _ _ us hl => match us, hl with | [_, _], _ => rfl
  refine fnG_pl F sc_History_getitem b sp2_len fun cdv A outer s H vs Q E hr h => ?_
  have hu := hr.units
  have hu1 := hr.units1
  obtain ⟨x_self, x_at, rfl, h⟩ := h
  refine ⟨_, PSs.nox (pss_cons (ps_expr (pe_c (call_g (G_check_edit T) (hr.mono (by decide)) pass0) (kp_check_edit T) rfl (g_check_edit T) (pa_cons (pv 1) (pa_cons (pe_pr (pv 0) (c_History T) (p_History_moment T) (G_History_moment T) (hr.mono (by decide)) pass0) pa_nil))))
    (pss_one (ps_ret (pe_ix ix_tup (pe_fld (pv 0) rfl) (pe_op (op_sub) (pv 1) pe_int) (fun _ _ => rfl))))), ?_⟩
  walk_at "vc"
  obtain ⟨S, es, n, p, ⟨a, dx, t, xs, rfl, na, e, nt, et, d⟩, rfl, hp, q⟩ := h
  have hl : n < es.length := (List.getElem?_eq_some_iff.mp hp).1
  refine ⟨_, rfl, ⟨_, _, e⟩, _, rfl, S, es, ⟨a, dx, t, xs, rfl, na, e, nt, et, d⟩, _, _, rfl, _, _, rfl, rfl, by omega, by omega, ?_⟩
  refine ⟨_, rfl, _, _, _, e, c_History T, n_History__edits T, _, rfl, _, rfl, ?_⟩
  obtain ⟨v, hv, dv⟩ := d.at hp
  exact ixT et (n := n) (by omega) hv (q v dv)
/-- a new History -/
theorem mk_History {S : List Addr} {es : List (Int × Int)} {vs : List V} {H : Hp} {Q : VK} {E : XK} (oS : Old S H) (hv : DeA S H vs es) (ho : Ords es) (hz : es.length ≤ 1000000) (q : ∀ v H', Kp [] H H' → Hist K S H' v es → Q v H') :
    ∀ x dx, H x = none → H dx = none → dx ≠ x → spS 1 (P_History_init K) (V.ref x :: vs) (upd (upd H dx (.own x)) x (.ins (ga K "History") dx [])) (fun v H2 => v = .non ∧ Q (.ref x) H2) E := by
  intro x dx hx hdx ne
  refine spS1 (by rw [hv.len]; have := sizeLine_eq; omega) fun p hp => ?_
  have k1 : Kp [] H (upd H dx (.own x)) := .new hdx
  have hx1 : upd H dx (.own x) x = none := by rw [upd_ne (Ne.symm ne)]; exact hx
  have k2 : Kp [] H (upd (upd H dx (.own x)) x (.ins (ga K "History") dx [])) := k1.trans (.new hx1)
  have k3 : Kp [] H (upd (upd (upd H dx (.own x)) x (.ins (ga K "History") dx [])) p (.tup vs)) := k2.trans (.new hp)
  have px : x ≠ p := fun z => by
    rw [← z, upd_same] at hp
    cases hp
  refine ⟨_, _, rfl, S, x, dx, es, oS.keep0 k3, rfl, ?_, ?_, ho, hz, ?_⟩
  · rw [upd_ne px, upd_same]
  · refine .tup (fun z => px (List.mem_singleton.mp z).symm) upd_same ?_
    exact DxA.keep k3.of0 (DxA.wid (S := S) (fun a z => .inr (by rw [List.mem_singleton.mp z]; exact hx)) hv)
  · intro H' t xs k ex nt et d
    refine ⟨rfl, q _ _ ((k3.of0.trans k).newS hx) ⟨x, dx, t, xs, rfl, oS.no hx, ex, nt, et, d⟩⟩
theorem sc_History_until : FnScope ["self", "moment", "stretches"] ["self", "moment"] (defScope s_History_until) := ⟨rfl, rfl, rfl, by decide +kernel, rfl, by decide +kernel, by decide +kernel⟩
theorem G_History_until (T : Tx K mg) : FnG P w K mg base CX0 7 (ma K (ga K "History") "until") (P_History_until K) := by
  obtain ⟨fd, F⟩ := F_History_until T
  have b : L2.Binds K fd ["self", "moment"] [] := F.bindsN fun _ _ _ _ _ _ us hl => match us, hl with | [_, _], _ => rfl
  refine fnG_pl F sc_History_until b sp2_len fun cdv A outer s H vs Q E hr h => ?_
  have hu := hr.units
  have hu1 := hr.units1
  obtain ⟨x_self, x_moment, rfl, h⟩ := h
  refine ⟨_, PSs.nox (pss_cons (ps_expr (pe_c (call_g (G_check_moment T) (hr.mono (by decide)) pass0) (kp_check_moment T) rfl (g_check_moment T) (pa_cons (pv 1) (pa_cons (pe_pr (pv 0) (c_History T) (p_History_moment T) (G_History_moment T) (hr.mono (by decide)) pass0) pa_nil))))
    (pss_cons (ps_set (i := 2) sc_History_until.nd rfl (by first | exact Or.inl rfl | exact Or.inr rfl) (pe_slice sl_tupA (pe_fld (pv 0) rfl) po_none (po_some (pv 1))))
    (pss_one (ps_ret (pe_cS (call_mk (k_History T) (G_History_init T) (hr.mono (by decide)) pass0) (k_History T).kp rfl (g_History T) (pv 2)))))), ?_⟩
  walk_at "vc"
  obtain ⟨S, es, n, oS, hh, rfl, hn, ho, hz, q⟩ := h
  obtain ⟨a, dx, t, xs, rfl, na, e, nt, et, d⟩ := id hh
  refine ⟨_, rfl, ⟨_, _, e⟩, _, rfl, S, es, hh, _, _, rfl, _, _, rfl, rfl, by omega, by omega, ?_⟩
  refine ⟨_, rfl, _, _, _, e, c_History T, n_History__edits T, _, rfl, _, rfl, ?_⟩
  refine slA_take oS nt et (by rw [d.len]; exact hn) fun p H' k np ep => ?_
  refine ⟨_, rfl, _, .inl (SqT.of ep), ?_⟩
  rw [List.append_nil]
  refine mk_History (es := es.take n) (oS.keep0 k) ?_ (fun p hp => ho p (List.mem_of_mem_take hp)) (by rw [List.length_take]; omega) fun v H2 k2 h2 => q v H2 (k.trans k2) h2
  show DxA S H' _ ((es.take n).map enc)
  rw [List.map_take]
  exact DxA.take n (DxA.keep k.of0 d)
theorem sc_History_add : FnScope ["self", "other"] ["self", "other"] (defScope s_History_add) := ⟨rfl, rfl, rfl, by decide +kernel, rfl, by decide +kernel, by decide +kernel⟩
theorem G_History_add (T : Tx K mg) : FnG P w K mg base CX0 7 (ma K (ga K "History") "__add__") (P_History_add K) := by
  obtain ⟨fd, F⟩ := F_History_add T
  have b : L2.Binds K fd ["self", "other"] [] := F.bindsN fun _ _ _ _ _ _ us hl => match us, hl with | [_, _], _ => rfl
  refine fnG_pl F sc_History_add b sp2_len fun cdv A outer s H vs Q E hr h => ?_
  have hu := hr.units
  have hu1 := hr.units1
  obtain ⟨x_self, x_other, rfl, h⟩ := h
  refine ⟨_, PSs.nox (pss_cons (ps_if (pt_not (pt_val (pe_c (call_g (G_is_stretch T) (hr.mono (by decide)) pass0) (kp_is_stretch T) rfl (g_is_stretch T) (pa_cons (pv 1) pa_nil)))) (pss_one ps_never) pss_nil)
    (pss_one (ps_ret (pe_cS2 (call_mk (k_History T) (G_History_init T) (hr.mono (by decide)) pass0) (k_History T).kp rfl (g_History T) (pa_star (pe_fld (pv 0) rfl) (pa_cons (pv 1) pa_nil)))))), ?_⟩
  walk_at "vc"
  obtain ⟨S, es, p, oS, ⟨a, dx, t, xs, rfl, na, e, nt, et, d⟩, hp, ho, h1, hz, q⟩ := h
  obtain ⟨dd, hd, hs⟩ := strD hp h1
  refine ⟨_, rfl, S, dd, hd, _, rfl, ?_⟩
  rw [hs]
  simp only [Bool.not_true, Bool.false_eq_true, if_false]
  refine ⟨_, rfl, _, _, _, e, c_History T, n_History__edits T, _, rfl, _, rfl, _, .inl (SqT.of et), ?_⟩
  refine mk_History (es := es ++ [p]) oS ?_ ?_ (by rw [List.length_append]; simp; omega) fun v H2 k2 h2 => q v H2 k2 h2
  · show DxA S H _ ((es ++ [p]).map enc)
    rw [List.map_append]
    exact DxA.append d (.cons hp .nil)
  · intro r hr
    rcases List.mem_append.mp hr with z | z
    · exact ho r z
    · rw [List.mem_singleton.mp z]; exact h1
theorem sc_History_version : FnScope ["self", "cell", "moment", "last", "number"] ["self", "cell", "moment"] (defScope s_History_version) := ⟨rfl, rfl, rfl, by decide +kernel, rfl, by decide +kernel, by decide +kernel⟩
theorem G_History_version_dfl (T : Tx K mg) (j : Nat) (hj : j ≤ 1) : FnG P w K mg base CX0 7 (ma K (ga K "History") "version") (fun vs H Q E => (P_History_version K) (vs ++ ([(He.Dv.v K (.non))] : List V).drop j) H Q E) := by
  obtain ⟨fd, F⟩ := F_History_version T
  have hb : ∃ ds, Vals (([(He.Dv.v K (.non))] : List V).drop j) ds ∧ L2.Binds K fd ["self", "cell", "moment"] ds := by
    match j, hj with
    | 0, _ => exact (F.binds1 (ps := ["self", "cell", "moment"]) 2 0 (List.cons_ne_nil _ _) rfl fun _ _ _ _ _ _ _ us its hl hi => match us, its, hl, hi with | [_, _], [_], _, _ => ⟨_, rfl, rfl⟩)
    | 1, _ => exact (F.binds1 (ps := ["self", "cell", "moment"]) 3 1 (List.cons_ne_nil _ _) rfl fun _ _ _ _ _ _ _ us its hl hi => match us, its, hl, hi with | [_, _, _], [_], _, _ => ⟨_, rfl, rfl⟩)
    | (n + 2), h => exact absurd h (by omega)
  obtain ⟨ds, hd, b⟩ := hb
  refine fnG_of F sc_History_version b hd sp3_len fun cdv A outer s H vs Q E hr h => ?_
  have hu := hr.units
  have hu1 := hr.units1
  obtain ⟨x_self, x_cell, x_moment, rfl, h⟩ := h
  refine ⟨_, PSs.nox (pss_cons (ps_expr (pe_c (call_g (G_check_cell T) (hr.mono (by decide)) pass0) (kp_check_cell T) rfl (g_check_cell T) (pa_cons (pv 1) pa_nil)))
    (pss_cons (ps_set (i := 3) sc_History_version.nd rfl (by first | exact Or.inl rfl | exact Or.inr rfl) (pe_pr (pv 0) (c_History T) (p_History_moment T) (G_History_moment T) (hr.mono (by decide)) pass0))
    (pss_cons (ps_if (pt_cmp (pc_notN (pv 2))) (pss_cons (ps_expr (pe_c (call_g (G_check_moment T) (hr.mono (by decide)) pass0) (kp_check_moment T) rfl (g_check_moment T) (pa_cons (pv 2) (pa_cons (pv 3) pa_nil))))
    (pss_one (ps_set (i := 3) sc_History_version.nd rfl (by first | exact Or.inl rfl | exact Or.inr rfl) (pv 2)))) pss_nil)
    (pss_cons (ps_for PassesOwn.never rfl (pi_range3 rfl (z_range T) (pa_cons (pv 3) (pa_cons pe_int (pa_cons (pe_un un_neg pe_int) pa_nil)))) (pg_name (i := 4) sc_History_version.nd rfl (by first | exact Or.inl rfl | exact Or.inr rfl))
    (pss_one (ps_if (pt_val (pe_c (call_g (G__touched T) (hr.mono (by decide)) pass0) (kp__touched T) rfl (g__touched T) (pa_cons (pe_ix ix_tup (pe_fld (pv 0) rfl) (pe_op (op_sub) (pv 4) pe_int) (fun _ _ => rfl)) (pa_cons (pv 1) pa_nil)))) (pss_one (ps_ret (pv 4))) pss_nil)))
    (pss_one (ps_ret pe_int)))))), ?_⟩
  walk_at "vc"
  obtain ⟨S, es, c, n, hh, rfl, hz, hn, hl, q⟩ := h
  obtain ⟨a, dx, t, xs, rfl, na, e, nt, et, d⟩ := id hh
  refine ⟨_, rfl, _, rfl, _, rfl, ⟨_, _, e⟩, _, rfl, S, es, hh, ?_⟩
  have stp : ∀ i : Nat, i < n → ∃ v p, es[n - (i + 1)]? = some p ∧ xs[n - (i + 1)]? = some v ∧ De S H v p := fun i hi => by
    have h1 : n - (i + 1) < es.length := by omega
    obtain ⟨v, hv, dv⟩ := d.at (List.getElem?_eq_getElem h1)
    exact ⟨v, _, List.getElem?_eq_getElem h1, hv, dv⟩
  rcases hz with ⟨rfl, rfl⟩ | rfl
  · rw [decide_eq_true rfl]
    simp only [Bool.not_true, Bool.false_eq_true, if_false]
    refine tFor_it H (walk_rangeC (lo := (es.length : Int)) (c := -1) (n := es.length)) (fun i σ H' => (∃ u, σ = [some (.ref a), some (.int c), some .non, some (.int es.length), u]) ∧ H' = H ∧ ver es c es.length = ver es c (es.length - i)) (fun R hR => ?_) ⟨⟨_, rfl⟩, rfl, rfl⟩ (fun _ _ _ _ _ => trivial) ?_ ?_
    · walk_at "vc"
      refine ⟨_, _, _, ⟨rfl, rfl, rfl⟩, es.length, ?_, hR⟩
      have z := RgC.neg (i := (es.length : Int)) (j := 0) (by omega) (by omega) (by omega) (by omega)
      rw [show ((es.length : Int) - 0).toNat = es.length by omega] at z
      exact z
    · rintro i x σ H1 H2 hi ⟨⟨u, rfl⟩, rfl, hv⟩ ⟨rfl, rfl⟩
      walk_at "vc"
      obtain ⟨v, p, hp, hx, dv⟩ := stp i hi
      refine ⟨_, _, _, e, c_History T, n_History__edits T, _, rfl, ixT et (n := es.length - (i + 1)) (by omega) hx ?_⟩
      refine ⟨_, _, rfl, S, p, c, dv, rfl, _, rfl, ?_⟩
      have en : es.length - i = es.length - (i + 1) + 1 := by omega
      have ev : ver es c (es.length - i) = if tch p c = true then es.length - (i + 1) + 1 else ver es c (es.length - (i + 1)) := by
        rw [en]
        show (if (es[es.length - (i + 1)]?.any fun p => tch p c) = true then _ else _) = _
        rw [hp]
        rfl
      split
      · rename_i ht
        rw [ht, if_pos rfl] at ev
        rw [hv, ev] at q
        have e3 : ((es.length : Nat) : Int) + ((i : Nat) : Int) * -1 = ((es.length - (i + 1) + 1 : Nat) : Int) := by omega
        rw [e3]
        exact q
      · rename_i ht
        rw [if_neg ht] at ev
        exact ⟨⟨_, rfl⟩, rfl, hv.trans ev⟩
    · rintro σ H1 ⟨⟨u, rfl⟩, rfl, hv⟩
      walk_at "vc"
      rw [Nat.sub_self] at hv
      rw [hv] at q
      exact q
  · rw [decide_eq_false (by simp)]
    simp only [Bool.not_false, if_true]
    refine ⟨_, _, rfl, _, _, rfl, rfl, by omega, by omega, ?_⟩
    refine tFor_it H (walk_rangeC (lo := (n : Int)) (c := -1) (n := n)) (fun i σ H' => (∃ u, σ = [some (.ref a), some (.int c), some (.int n), some (.int n), u]) ∧ H' = H ∧ ver es c n = ver es c (n - i)) (fun R hR => ?_) ⟨⟨_, rfl⟩, rfl, rfl⟩ (fun _ _ _ _ _ => trivial) ?_ ?_
    · walk_at "vc"
      refine ⟨_, _, _, ⟨rfl, rfl, rfl⟩, n, ?_, hR⟩
      have z := RgC.neg (i := (n : Int)) (j := 0) (by omega) (by omega) (by omega) (by omega)
      rw [show ((n : Int) - 0).toNat = n by omega] at z
      exact z
    · rintro i x σ H1 H2 hi ⟨⟨u, rfl⟩, rfl, hv⟩ ⟨rfl, rfl⟩
      walk_at "vc"
      obtain ⟨v, p, hp, hx, dv⟩ := stp i hi
      refine ⟨_, _, _, e, c_History T, n_History__edits T, _, rfl, ixT et (n := n - (i + 1)) (by omega) hx ?_⟩
      refine ⟨_, _, rfl, S, p, c, dv, rfl, _, rfl, ?_⟩
      have en : n - i = n - (i + 1) + 1 := by omega
      have ev : ver es c (n - i) = if tch p c = true then n - (i + 1) + 1 else ver es c (n - (i + 1)) := by
        rw [en]
        show (if (es[n - (i + 1)]?.any fun p => tch p c) = true then _ else _) = _
        rw [hp]
        rfl
      split
      · rename_i ht
        rw [ht, if_pos rfl] at ev
        rw [hv, ev] at q
        have e3 : ((n : Nat) : Int) + ((i : Nat) : Int) * -1 = ((n - (i + 1) + 1 : Nat) : Int) := by omega
        rw [e3]
        exact q
      · rename_i ht
        rw [if_neg ht] at ev
        exact ⟨⟨_, rfl⟩, rfl, hv.trans ev⟩
    · rintro σ H1 ⟨⟨u, rfl⟩, rfl, hv⟩
      walk_at "vc"
      rw [Nat.sub_self] at hv
      rw [hv] at q
      exact q
theorem G_History_version_1 (T : Tx K mg) : FnG P w K mg base CX0 7 (ma K (ga K "History") "version") (fun vs H Q E => (P_History_version K) (vs ++ ([He.Dv.v K (.non)] : List V)) H Q E) := G_History_version_dfl T 0 (by decide)
theorem G_History_version (T : Tx K mg) : FnG P w K mg base CX0 7 (ma K (ga K "History") "version") (P_History_version K) := (G_History_version_dfl T 1 (by decide)).imp fun vs H Q E h => by rw [show List.drop 1 ([(He.Dv.v K (.non))] : List V) = [] from rfl, List.append_nil]; exact h
theorem sc_History_versions : FnScope ["self", "cell", "edits", "number", "stretch"] ["self", "cell"] (defScope s_History_versions) := ⟨rfl, rfl, rfl, by decide +kernel, rfl, by decide +kernel, by decide +kernel⟩
theorem G_History_versions (T : Tx K mg) : FnG P w K mg base CX0 5 (ma K (ga K "History") "versions") (P_History_versions K) := by
  obtain ⟨fd, F⟩ := F_History_versions T
  have b : L2.Binds K fd ["self", "cell"] [] := F.bindsN fun _ _ _ _ _ _ us hl => match us, hl with | [_, _], _ => rfl
  refine fnG_pl F sc_History_versions b sp2_len fun cdv A outer s H vs Q E hr h => ?_
  have hu := hr.units
  have hu1 := hr.units1
  obtain ⟨x_self, x_cell, rfl, h⟩ := h
  refine ⟨_, PSs.nox (pss_cons (ps_expr (pe_c (call_g (G_check_cell T) (hr.mono (by decide)) pass0) (kp_check_cell T) rfl (g_check_cell T) (pa_cons (pv 1) pa_nil)))
    (pss_cons (ps_setLc (i := 2) rfl sc_History_versions.nd rfl rfl (sw_true rfl rfl rfl (by decide +kernel)) (pi_enumK rfl (z_enumerate T) (pa_cons (pe_fld (pv 0) rfl) pa_nil) (pk_cons pe_int pk_nil)) (blkOk_by (N := ["self", "cell", "edits", "number", "stretch"]) (sc := defScope s_History_versions) (own := [("number", 3), ("stretch", 4)]) (by decide +kernel)) (fun _ _ _ _ _ => (pg_tupK (K := K) (n := 2) rfl rfl (pgs_cons (pg_name (i := 3) sc_History_versions.nd rfl (by first | exact Or.inl rfl | exact Or.inr rfl)) (pgs_cons (pg_name (i := 4) sc_History_versions.nd rfl (by first | exact Or.inl rfl | exact Or.inr rfl)) pgs_nil)))) (fun _ _ _ _ _ => (pts_one (pt_val (pe_c (call_g (G__touched T) (hr.mono (by decide)) pass0) (kp__touched T) rfl (g__touched T) (pa_cons (pv 4) (pa_cons (pv 1) pa_nil)))))) (fun _ _ _ _ _ => (pv 3)))
    (pss_one (ps_ret (pe_lst (pa_cons pe_int (pa_star (pv 2) pa_nil))))))), ?_⟩
  walk_at "vc"
  obtain ⟨S, es, c, oS, hh, rfl, hl, q⟩ := h
  obtain ⟨a, dx, t, xs, rfl, na, e, nt, et, d⟩ := id hh
  have hlt : ∀ i, (tchs es c i).length ≤ i := fun i => by
    induction i with
    | zero => exact Nat.le_refl _
    | succ i ih =>
      show (tchs es c i ++ _).length ≤ _
      rw [List.length_append]
      have : (if (es[i]?.any fun p => tch p c) = true then [((i : Nat) : Int) + 1] else []).length ≤ 1 := by split <;> simp
      omega
  refine ⟨_, rfl, _, rfl, ?_⟩
  refine tLc_d H S [] (fun i => tchs es c i) (walk_enumT (K := K) (a := t) (k := 1) (xs := xs)) (fun R hR => ?_) rfl (fun D i H' p' => p'.seqT subNil' et) ?_ ?_
  · walk_at "vc"
    exact ⟨_, _, _, e, c_History T, n_History__edits T, _, rfl, _, rfl, by decide, by decide, ⟨_, SqT.of et⟩, hR⟩
  · rintro D i x H1 H2 hi pp ⟨T, x1, y1, rfl, hT, rfl, h1, h2⟩
    walk_at "vc"
    obtain ⟨r, hr, dr⟩ := d.of h2
    cases h1
    refine ⟨_, SqT.of upd_same, rfl, _, _, rfl, _, _, rfl, rfl, _, _, ⟨rfl, rfl⟩, _, r, (pp.keep subNil dr).keep (.new hT), _, rfl, ?_⟩
    have er : tchs es c (i + 1) = tchs es c i ++ (if tch r c = true then [((i : Nat) : Int) + 1] else []) := by
      show tchs es c i ++ (if (es[i]?.any fun p => tch p c) = true then _ else _) = _
      rw [hr]
      rfl
    split
    · rename_i ht
      rw [if_pos ht] at er
      refine pp.put (.new hT) Old.nil subNil (v := ((i : Nat) : Int) + 1) ?_ er ?_
      · rw [show (1 : Int) + ((i : Nat) : Int) = ((i : Nat) : Int) + 1 by omega]
        exact Dx.int _
      · have := hlt i
        have := d.len
        have := sizeLine_eq
        omega
    · rename_i ht
      rw [if_neg ht, List.append_nil] at er
      exact pp.skip (.new hT) Old.nil subNil er
  · intro D H1 pp
    obtain ⟨k, dv⟩ := pp.done oS
    obtain ⟨b, ys, e1, nb, eb, db⟩ := dv.ls
    cases e1
    have hly := db.len
    have hlt2 := hlt xs.length
    have hx := d.len
    have hsz := sizeLine_eq
    refine ⟨_, rfl, _, .inr (SqL.of eb), by rw [List.append_nil]; omega, fun p hp => ?_⟩
    rw [List.append_nil]
    refine q _ _ (k.trans (.new hp)) ?_
    rw [hx] at db
    exact De.mkLs ((oS.keep0 k).no hp) upd_same (DxA.cons (.int 0) (DxA.keep (.new hp) db))
theorem sc_History_stands : FnScope ["self", "cell", "version", "known", "later", "number", "end"] ["self", "cell", "version"] (defScope s_History_stands) := ⟨rfl, rfl, rfl, by decide +kernel, rfl, by decide +kernel, by decide +kernel⟩
theorem G_History_stands (T : Tx K mg) : FnG P w K mg base CX0 7 (ma K (ga K "History") "stands") (P_History_stands K) := by
  obtain ⟨fd, F⟩ := F_History_stands T
  have b : L2.Binds K fd ["self", "cell", "version"] [] := F.bindsN fun _ _ _ _ _ _ us hl => match us, hl with | [_, _, _], _ => rfl
  refine fnG_pl F sc_History_stands b sp3_len fun cdv A outer s H vs Q E hr h => ?_
  have hu := hr.units
  have hu1 := hr.units1
  obtain ⟨x_self, x_cell, x_version, rfl, h⟩ := h
  refine ⟨_, PSs.nox (pss_cons (ps_set (i := 3) sc_History_stands.nd rfl (by first | exact Or.inl rfl | exact Or.inr rfl) (pe_m (call_g (G_History_versions T) (hr.mono (by decide)) pass0) (pv 0) (c_History T) (m_History_versions T) (pa_cons (pv 1) pa_nil)))
    (pss_cons (ps_if (PW.pt (pw_or (pt_not (pt_val (pe_c (call_g (G_is_integer T) (hr.mono (by decide)) pass0) (kp_is_integer T) rfl (g_is_integer T) (pa_cons (pv 2) pa_nil)))) (pw_or1 (pt_cmpR ((op_notInD hu1)) (pv 2) (pv 3) (by rfl))))) (pss_one ps_never) pss_nil)
    (pss_cons (ps_setLc (i := 4) rfl sc_History_stands.nd rfl rfl (sw_true rfl rfl rfl (by decide +kernel)) (pi_list (pv 3)) (blkOk_by (N := ["self", "cell", "version", "known", "later", "number", "end"]) (sc := defScope s_History_stands) (own := [("number", 5)]) (by decide +kernel)) (fun _ _ _ _ _ => (pg_name (i := 5) sc_History_stands.nd rfl (by first | exact Or.inl rfl | exact Or.inr rfl))) (fun _ _ _ _ _ => (pts_one (pt_cmpR (op_gt) (pv 5) (pv 2) (nomark _)))) (fun _ _ _ _ _ => (pv 5)))
    (pss_cons (ps_set (i := 6) sc_History_stands.nd rfl (by first | exact Or.inl rfl | exact Or.inr rfl) (pe_ifExp (pt_truth (pv 4) (by intro _; rfl)) (pe_ix ix_list (pv 4) pe_int (fun _ _ => rfl)) (pe_op (op_add) (pe_pr (pv 0) (c_History T) (p_History_moment T) (G_History_moment T) (hr.mono (by decide)) pass0) pe_int)))
    (pss_one (ps_ret (pe_tup (pa_cons (pv 2) (pa_cons (pv 6) pa_nil))))))))), ?_⟩
  walk_at "vc"
  obtain ⟨S, es, c, v, oS, hh, rfl, rfl, hv, hl, q⟩ := h
  obtain ⟨a, dx, t, xs, rfl, na, e, nt, et, d⟩ := id hh
  refine ⟨_, rfl, _, _, e, rfl, _, _, rfl, S, es, c, oS, hh, rfl, hl, fun w H1 k1 dw => ?_⟩
  refine ⟨_, rfl, [], _, .int v, _, rfl, ?_⟩
  simp only [isIntD, Bool.not_true, Bool.false_eq_true, if_false]
  refine rNotInD_of (S := []) (a := v) (Dx.int v) dw (by decide) ⟨_, rfl, ?_⟩
  rw [decide_eq_true hv]
  simp only [Bool.not_true, Bool.false_eq_true, if_false]
  have oS1 := oS.keep0 k1
  obtain ⟨b, ys, rfl, nb, eb, db⟩ := dw.ls
  refine tLc_d H1 S [] (fun i => ((vers es c).take i).filter fun n => decide (v < n)) (walk_list (xs := ys)) (fun R hR => ⟨_, rfl, _, rfl, ⟨_, SqL.of eb⟩, hR⟩) rfl (fun D i H' p' => p'.seqL subNil' eb) ?_ ?_
  · rintro D i x H2 _ hi pp ⟨rfl, hx⟩
    walk_at "vc"
    obtain ⟨r, hr, dr⟩ := db.of hx
    have er := dr.int
    subst er
    refine ⟨_, rfl, ?_⟩
    have hvl : (vers es c).length ≤ es.length + 1 := by
      have : ∀ i, (tchs es c i).length ≤ i := fun i => by
        induction i with
        | zero => exact Nat.le_refl _
        | succ i ih =>
          show (tchs es c i ++ _).length ≤ _
          rw [List.length_append]
          have : (if (es[i]?.any fun p => tch p c) = true then [((i : Nat) : Int) + 1] else []).length ≤ 1 := by split <;> simp
          omega
      have := this es.length
      show (0 :: tchs es c es.length).length ≤ _
      rw [List.length_cons]
      omega
    split
    · rename_i ht
      refine pp.put .refl Old.nil subNil (v := r) (Dx.int r) ?_ ?_
      · show List.filter _ ((vers es c).take (i + 1)) = _
        rw [take_snoc hr, List.filter_append, List.filter_cons, if_pos ht]
        rfl
      · have h1 := List.length_filter_le (fun n => decide (v < n)) ((vers es c).take i)
        rw [List.length_take] at h1
        have := sizeLine_eq
        show (List.filter _ _).length < _
        omega
    · rename_i ht
      refine pp.skip .refl Old.nil subNil ?_
      show List.filter _ ((vers es c).take (i + 1)) = _
      rw [take_snoc hr, List.filter_append, List.filter_cons, if_neg ht]
      exact List.append_nil _
  · intro D H2 pp
    obtain ⟨k2, dv⟩ := pp.done oS1
    obtain ⟨b2, zs, e1, nb2, eb2, db2⟩ := dv.ls
    cases e1
    rw [db.len, List.take_length] at db2
    have ez := db2.intsV
    refine ⟨_, .inl ⟨zs, SqL.of eb2, rfl⟩, ?_⟩
    have hh2 := (hh.keep0 k1).keep0 k2
    have e2 := (k1.trans k2) _ _ subNil' e
    cases hf : (vers es c).filter fun n => decide (v < n) with
    | nil =>
      rw [hf] at ez
      subst ez
      simp only [List.map_nil, List.isEmpty_nil, Bool.not_true, Bool.false_eq_true, if_false]
      refine ⟨_, rfl, ⟨_, _, e2⟩, _, rfl, S, es, hh2, _, rfl, by decide, fun p hp => q _ _ ((k1.trans k2).trans (.new hp)) ?_⟩
      have es2 : stop (vers es c) v (es.length + 1) = es.length + 1 := by unfold stop; rw [hf]
      rw [es2]
      exact De.mk2 (((oS1.keep0 k2)).no hp) upd_same
    | cons n r =>
      rw [hf] at ez
      subst ez
      simp only [List.map_cons, List.isEmpty_cons, Bool.not_false, if_true]
      refine ixL eb2 (n := 0) rfl rfl ⟨by decide, fun p hp => q _ _ ((k1.trans k2).trans (.new hp)) ?_⟩
      have es2 : stop (vers es c) v (es.length + 1) = n := by unfold stop; rw [hf]
      rw [es2]
      exact De.mk2 (((oS1.keep0 k2)).no hp) upd_same
theorem sc_History_eq : FnScope ["self", "other"] ["self", "other"] (defScope s_History_eq) := ⟨rfl, rfl, rfl, by decide +kernel, rfl, by decide +kernel, by decide +kernel⟩
theorem G_History_eq (T : Tx K mg) : FnG P w K mg base CX0 1 (ma K (ga K "History") "__eq__") (P_History_eq K) := by
  obtain ⟨fd, F⟩ := F_History_eq T
  have b : L2.Binds K fd ["self", "other"] [] := F.bindsN fun _ _ _ _ _ _ us hl => match us, hl with | [_, _], _ => rfl
  refine fnG_pl F sc_History_eq b sp2_len fun cdv A outer s H vs Q E hr h => ?_
  have hu := hr.units
  have hu1 := hr.units1
  obtain ⟨x_self, x_other, rfl, h⟩ := h
  refine ⟨_, PSs.nox (pss_one (ps_ret (pe_and (pe_callB (call_isi) (by rfl) (z_isinstance T) PyProof.Rows.boot_isinstance (pa_cons (pv 1) (pa_cons (pe_glob (v := .ref (ga K "History")) rfl (g_History T) rfl) pa_nil))) (pe_one (pe_cmpR (op_eqD hu) (pe_fld (pv 0) rfl) (pe_fld (pv 1) rfl) (nomark _)))))), ?_⟩
  walk_at "vc"
  obtain ⟨S, es, S', es', hh, hh', q⟩ := h
  obtain ⟨a, dx, t, xs, rfl, na, e, nt, et, d⟩ := hh
  obtain ⟨a', dx', t', xs', rfl, na', e', nt', et', d'⟩ := hh'
  refine ⟨_, _, _, _, true, rfl, .own _, (ty_History T).ty e', (ty_History T).self, ?_⟩
  refine ⟨_, rfl, ?_⟩
  rw [if_pos rfl]
  refine ⟨_, rfl, _, _, _, e, c_History T, n_History__edits T, _, rfl, _, rfl, _, _, _, e', c_History T, n_History__edits T, _, rfl, ?_⟩
  refine rEqD_of (De.mkTu nt et d) (De.mkTu nt' et' d') (by decide) ?_
  rw [show decide (Tu.mk es = Tu.mk es') = decide (es = es') from decide_eq_decide.mpr (by rw [Tu.mk.injEq])]
  exact q
theorem sc_History_repr : FnScope ["self"] ["self"] (defScope s_History_repr) := ⟨rfl, rfl, rfl, by decide +kernel, rfl, by decide +kernel, by decide +kernel⟩
theorem G_History_repr (T : Tx K mg) : FnG P w K mg base CX0 3 (ma K (ga K "History") "__repr__") (P_History_repr K) := by
  obtain ⟨fd, F⟩ := F_History_repr T
  have b : L2.Binds K fd ["self"] [] := F.bindsN fun _ _ _ _ _ _ us hl => match us, hl with | [_], _ => rfl
  refine fnG_pl F sc_History_repr b sp1_len fun cdv A outer s H vs Q E hr h => ?_
  have hu := hr.units
  have hu1 := hr.units1
  obtain ⟨x_self, rfl, h⟩ := h
  refine ⟨_, PSs.nox (pss_one (ps_ret (pe_joined (PJ.cons pe_str (PJ.cons (pe_fmt (pe_c (call_g (G__listed T) (hr.mono (by decide)) pass0) (kp__listed T) rfl (g__listed T) (pa_cons (pe_fld (pv 0) rfl) pa_nil))) (PJ.cons pe_str PJ.nil)))))), ?_⟩
  obtain ⟨S, es, oS, hh, hz, hb, q⟩ := h
  obtain ⟨a, dx, t, xs, rfl, na, e, nt, et, d⟩ := id hh
  simp only [tJs, tFmt]
  walk_at "vc"
  have hl := listed_len hb hz
  have l1 : (Str.empty ++ Str.ofString "History(").length = 8 := by decide +kernel
  have l2 : (Str.ofString ")").length = 1 := by decide +kernel
  have hsz := sizeLine_eq
  refine ⟨by rw [l1]; omega, _, _, _, e, c_History T, n_History__edits T, _, rfl, _, rfl, S, es, oS, De.mkTu nt et d, hz, hb, fun H' k => .inl ⟨_, rfl, by omega, ?_, ?_, q _ k⟩⟩
  · rw [strLen_append, l1]; omega
  · rw [strLen_append, strLen_append, l1, l2]; omega
end Hd

set_option Elab.async false
set_option linter.all false
set_option maxRecDepth 100000
set_option maxHeartbeats 4000000
namespace Hd
open PySem PySem.Spec PyProof.Rows L2 He Lw StX
open Lw.En (enc)
local macro_rules | `(tactic| walk_at "vc") => `(tactic| simp only [tSeq, tAsg, tRet, tRetN, tDrop, tNext, tIfS, tNever, tVar, tC, tOp, tUn, tTest, tB, tNot, tAnd, tOr, tAndV, tOrV, tNotV, tIf, tChain, tCmp, t2I, tCB, tCons, tNil, tTup, tLst, tMC, tFld, sFld, tPr, gName, wipe, List.foldl_cons, List.foldl_nil, tYes, iTup, iList, iEnum, iEnumT, iEnumK, iRng1, iRng2, iRng3, gNil, gCons, gTup, gUnl, gSub, tPar, rI, rI0, rU, tIsN, tNotN, tSl, tPart, tNoPart, tThen, rMk, tStar, tBM, tM1,
  assignEach, cxOf, L2.start, List.map_cons, List.map_nil, List.length_cons, List.length_nil, List.replicate, List.cons_append, List.nil_append, List.getElem?_cons_zero, List.getElem?_cons_succ, List.set_cons_zero, List.set_cons_succ, Option.some.injEq, V.int.injEq, V.bl.injEq, V.ref.injEq, V.str.injEq, exists_eq_left', exists_eq_left, exists_eq_right', exists_eq_right, exists_and_left, exists_and_right, true_and, and_true, List.cons.injEq, List.cons_ne_nil, reduceCtorEq, false_and, and_false, exists_false, if_true, if_false, Bool.false_eq_true, Bool.true_eq_false, eq_self, forall_eq, forall_eq', rEq_int, rNe_int, rEq_str, rNe_str])

variable {P : Program} {w : World} {K : Frag} {mg : Str → Option Value} {base : Heap}
def told (es : List (Int × Int)) (c : Int) : Li2 (List Int) (List (Int × Int)) := ⟨vers es c, (vers es c).map fun v => (v, stop (vers es c) v (es.length + 1))⟩
def behind (t : Li2 (List Int) (List (Int × Int))) (m : Int) (p : Int × Int) (c : Int) : Li2 (List Int) (List (Int × Int)) :=
  if tch p c = true then ⟨t.a ++ [m + 1], t.b ++ [(m + 1, m + 1 + 1)]⟩ else ⟨t.a, t.b.dropLast ++ [((t.b.getLastD (0, 0)).1, (t.b.getLastD (0, 0)).2 + 1)]⟩
def moved (rows : List (Int × Int)) (b s : Int) : List (Int × Int) := rows.map fun p => if 0 < s then (b + p.1, b + p.2) else (b - p.2, b - p.1)
theorem tchs_len (es : List (Int × Int)) (c : Int) (i : Nat) : (tchs es c i).length ≤ i := by
  induction i with
  | zero => exact Nat.le_refl _
  | succ i ih =>
    show (tchs es c i ++ _).length ≤ _
    rw [List.length_append]
    have : (if (es[i]?.any fun p => tch p c) = true then [((i : Nat) : Int) + 1] else []).length ≤ 1 := by split <;> simp
    omega
theorem vers_len (es : List (Int × Int)) (c : Int) : (vers es c).length ≤ es.length + 1 := by
  have := tchs_len es c es.length
  show (0 :: tchs es c es.length).length ≤ _
  rw [List.length_cons]
  omega
theorem _root_.Lw.LcP.lcH {α : Type} [Lw.En α] {S T : List Addr} {H1 H : Hp} {D : Addr} {r : Nat → List α} {n : Nat} {v : V} {es : List (Int × Int)} (p : LcP S T H1 D r n H) (hT : ∀ a ∈ T, a ∈ S) (h : Hist K S H1 v es) : Hist K (D :: S) H v es := by
  obtain ⟨a, dx, t, xs, rfl, na, e, nt, et, d⟩ := h
  have dt := p.keep hT (De.mkTu nt et d)
  have nD : ∀ {a : Addr} {o : HO}, a ∉ S → H1 a = some o → a ∉ D :: S ∧ H a = some o := fun {a o} na e => by
    have ne : a ≠ D := fun z => by rw [z, p.new] at e; cases e
    refine ⟨fun z => ?_, p.kp a o (fun z => ?_) e⟩
    · rcases List.mem_cons.mp z with z | z
      · exact ne z
      · exact na z
    · rcases List.mem_cons.mp z with z | z
      · exact ne z
      · exact na (hT a z)
  obtain ⟨n1, e1⟩ := nD na e
  obtain ⟨n2, e2⟩ := nD nt et
  obtain ⟨t', xs', e3, n3, e4, d3⟩ := dt.tu
  cases e3
  rw [e2] at e4
  cases e4
  exact ⟨a, dx, t, _, rfl, n1, e1, n2, e2, d3⟩
def P__law_pot (K : Frag) : Sp := sp2 fun x y H Q _ => ∃ a, ∃ ns : List Int, ∃ i : Nat, x = .ref a ∧ SqL K H a (ns.map V.int) ∧ y = .int i ∧ i ≤ 4 ∧ ∀ p H', Kp [] H H' → H p = none → PotAt H' p → Q (.ref p) H'
def P__law_draw (_ : Frag) : Sp := sp2 fun x y H Q _ => ∃ p n, x = .ref p ∧ PotAt H p ∧ y = .int n ∧ 1 ≤ n ∧ n < 2 ^ 30 ∧ ∀ r H', Kp [p] H H' → PotAt H' p → 0 ≤ r → r < n → Q (.int r) H'
def P__law_pick (_ : Frag) : Sp := sp2 fun x y H Q _ => ∃ p a, ∃ ns : List Int, x = .ref p ∧ PotAt H p ∧ y = .ref a ∧ a ≠ p ∧ H a = some (.lst (ns.map V.int)) ∧ ns ≠ [] ∧ ns.length < 1000 ∧ ∀ r H', Kp [p] H H' → PotAt H' p → r ∈ ns → Q (.int r) H'
def P__law_base (_ : Frag) : Sp := sp1 fun x H Q _ => ∃ p, x = .ref p ∧ PotAt H p ∧ ∀ r H', Kp [p] H H' → PotAt H' p → r.natAbs < 10 ^ 40 → Q (.int r) H'
def P__law_rows (_ : Frag) : Sp := sp3 fun x y z H Q _ => ∃ S p b, ∃ n : Nat, Old S H ∧ p ∈ S ∧ x = .ref p ∧ PotAt H p ∧ y = .int b ∧ b.natAbs < 10 ^ 40 ∧ z = .int n ∧ n ≤ 10 ∧ ∀ v H' rows, Kp [p] H H' → PotAt H' p → De S H' v rows → rows.length = n → Ords rows → Bds rows → Q v H'
def P__law_past (K : Frag) : Sp := sp1 fun x H Q _ => ∃ S rows, Old S H ∧ De S H x rows ∧ Ords rows ∧ rows.length ≤ 100 ∧ ∀ v H', Kp [] H H' → Hist K S H' v rows → Q v H'
def P__law_told (K : Frag) : Sp := sp2 fun x y H Q _ => ∃ S es c, Old S H ∧ Hist K S H x es ∧ y = .int c ∧ es.length ≤ 1000 ∧ ∀ v H', Kp [] H H' → De S H' v (told es c) → Q v H'
def P__law_behind (K : Frag) : Sp := sp4 fun x y z u H Q _ => ∃ S t es p c, Old S H ∧ De S H x t ∧ t.b ≠ [] ∧ t.b.length ≤ 2000 ∧ t.a.length ≤ 2000 ∧ Hist K S H y es ∧ De S H z p ∧ u = .int c ∧ ∀ v H', Kp [] H H' → De S H' v (behind t es.length p c) → Q v H'
def P__law_grown_right (K : Frag) : Sp := sp3 fun x y z H Q _ => ∃ S es p, ∃ cs : List Int, Old S H ∧ Hist K S H x es ∧ De S H y p ∧ De S H z cs ∧ p.1 ≤ p.2 ∧ Ords es ∧ Bds (es ++ [p]) ∧ es.length ≤ 100 ∧ ∀ H', Kp [] H H' → Q (.bl true) H'
def P__law_other_strip (K : Frag) : Sp := sp3 fun x y z H Q _ => ∃ S rows b s, Old S H ∧ De S H x rows ∧ y = .int b ∧ z = .int s ∧ Ords rows ∧ rows.length ≤ 100 ∧ ∀ v H', Kp [] H H' → Hist K S H' v (moved rows b s) → Q v H'
def P__law_strips_right (K : Frag) : Sp := sp4 fun x y z u H Q _ => ∃ S p rows, ∃ cs : List Int, Old S H ∧ p ∈ S ∧ x = .ref p ∧ PotAt H p ∧ De S H y rows ∧ Hist K S H z rows ∧ De S H u cs ∧ Ords rows ∧ rows.length ≤ 100 ∧ cs.length ≤ 100 ∧ ∀ H', Kp [p] H H' → PotAt H' p → Q (.bl true) H'
def P__law_right (_ : Frag) : Sp := sp1 fun x H Q _ => ∃ p, x = .ref p ∧ PotAt H p ∧ ∀ H', Kp [p] H H' → Q (.bl true) H'
def P_law (K : Frag) : Sp := sp1 fun x H Q _ => ∃ a, ∃ ns : List Int, x = .ref a ∧ SqL K H a (ns.map V.int) ∧ ns.length ≤ 63 ∧ ∀ H', Q (.bl true) H'
theorem sc__law_pot : FnScope ["_law_script", "_law_k", "_law_here"] ["_law_script", "_law_k"] (defScope s__law_pot) := ⟨rfl, rfl, rfl, by decide +kernel, rfl, by decide +kernel, by decide +kernel⟩
theorem G__law_pot (T : Tx K mg) : FnG P w K mg base CX0 1 (ga K "_law_pot") (P__law_pot K) := by
  obtain ⟨fd, F⟩ := F__law_pot T
  have b : L2.Binds K fd ["_law_script", "_law_k"] [] := F.bindsN fun _ _ _ _ _ _ us hl => match us, hl with | [_, _], _ => rfl
  refine fnG_pl F sc__law_pot b sp2_len fun cdv A outer s H vs Q E hr h => ?_
  have hu := hr.units
  have hu1 := hr.units1
  obtain ⟨x_script, x_k, rfl, h⟩ := h
  refine ⟨_, PSs.nox (pss_cons (ps_set (i := 2) sc__law_pot.nd rfl (by first | exact Or.inl rfl | exact Or.inr rfl) (pe_op (op_add) (pe_op (op_mul) pe_int (pv 1)) pe_int))
    (pss_cons (ps_if (pt_cmpR (op_lt) (pv 1) (pe_callB (call_len_seq) (by rfl) (z_len T) PySem.boot_len (pa_cons (pv 0) pa_nil)) (nomark _)) (pss_one (ps_set (i := 2) sc__law_pot.nd rfl (by first | exact Or.inl rfl | exact Or.inr rfl) (pe_callB (call_abs) (by rfl) (z_abs T) PyProof.Rows.boot_abs (pa_cons (pe_ix ix_list (pv 0) (pv 1) (fun _ _ => rfl)) pa_nil)))) pss_nil)
    (pss_one (ps_ret (pe_lst (pa_cons (pe_callB (call_max2 rfl) (by rfl) (z_max T) PyProof.Rows.boot_max (pa_cons pe_int (pa_cons (pe_op (op_sub) (pv 2) (pe_op (op_pow) pe_int pe_int)) pa_nil))) (pa_cons (pe_op (op_add) (pe_op (op_mod) (pe_op (op_mul) (pe_callTy (call_int1) (by rfl) (z_int T) PyProof.Rows.boot_int (pa_cons (pe_op (op_add) (pe_op (op_mod) (pe_callTy (call_int1) (by rfl) (z_int T) PyProof.Rows.boot_int (pa_cons (pv 2) pa_nil)) pe_int) pe_int) pa_nil)) (pe_op (op_pow) (pe_op (op_add) (pe_op (op_mul) pe_int (pv 1)) pe_int) pe_int)) pe_int) pe_int) pa_nil))))))), ?_⟩
  walk_at "vc"
  obtain ⟨a, ns, i, rfl, hq, rfl, hi, q⟩ := h
  refine ⟨_, rfl, .inl (by omega), a, rfl, _, .inl hq, _, rfl, ?_⟩
  rw [List.length_map]
  split
  · rename_i hd
    have hlt : i < ns.length := by simpa using hd
    refine ⟨a, _, _, .int (ns[i]), rfl, rfl, hq, atI_nat (by simp [hlt]), ?_⟩
    generalize ns[i] = z
    refine ⟨_, rfl, ⟨by omega, by omega, by decide⟩, _, _, ⟨rfl, rfl⟩, .inl ⟨by omega, .inl ⟨_, rfl, .inl (by omega), ⟨by omega, by omega, by omega⟩, .inl ?_, by omega, by decide, fun p hp => q p _ (.new hp) hp ⟨_, _, upd_same, ?_, ?_, ?_⟩⟩⟩⟩
    · generalize (if z < 0 then -z else z) = u
      omega
    · split <;> omega
    · have := Int.emod_nonneg (((if z < 0 then -z else z) % 2147483563 + 13) * (2 * (i : Int) + 3) ^ Int.toNat 3) (b := 2147483477) (by omega)
      omega
    · have := Int.emod_lt_of_pos (((if z < 0 then -z else z) % 2147483563 + 13) * (2 * (i : Int) + 3) ^ Int.toNat 3) (b := 2147483477) (by omega)
      omega
  · refine ⟨⟨by omega, by omega, by decide⟩, _, _, ⟨rfl, rfl⟩, .inl ⟨by omega, .inl ⟨_, rfl, .inl (by omega), ⟨by omega, by omega, by omega⟩, .inl ?_, by omega, by decide, fun p hp => q p _ (.new hp) hp ⟨_, _, upd_same, ?_, ?_, ?_⟩⟩⟩⟩
    · omega
    · split <;> omega
    · have := Int.emod_nonneg (((31 * (i : Int) + 11) % 2147483563 + 13) * (2 * (i : Int) + 3) ^ Int.toNat 3) (b := 2147483477) (by omega)
      omega
    · have := Int.emod_lt_of_pos (((31 * (i : Int) + 11) % 2147483563 + 13) * (2 * (i : Int) + 3) ^ Int.toNat 3) (b := 2147483477) (by omega)
      omega
theorem sc__law_draw : FnScope ["_law_pot_here", "_law_many", "_law_digit"] ["_law_pot_here", "_law_many"] (defScope s__law_draw) := ⟨rfl, rfl, rfl, by decide +kernel, rfl, by decide +kernel, by decide +kernel⟩
theorem G__law_draw (T : Tx K mg) : FnG P w K mg base CX0 1 (ga K "_law_draw") (P__law_draw K) := by
  obtain ⟨fd, F⟩ := F__law_draw T
  have b : L2.Binds K fd ["_law_pot_here", "_law_many"] [] := F.bindsN fun _ _ _ _ _ _ us hl => match us, hl with | [_, _], _ => rfl
  refine fnG_pl F sc__law_draw b sp2_len fun cdv A outer s H vs Q E hr h => ?_
  have hu := hr.units
  have hu1 := hr.units1
  obtain ⟨x_pot_here, x_many, rfl, h⟩ := h
  refine ⟨_, PSs.nox (pss_cons (ps_if (pt_cmpR (op_gt) (pe_ix ix_list (pv 0) pe_int (fun _ _ => rfl)) pe_int (nomark _)) (pss_cons (ps_asg (pe_callB (call_divmod) (by rfl) (z_divmod T) PyProof.Rows.boot_divmod (pa_cons (pe_ix ix_list (pv 0) pe_int (fun _ _ => rfl)) (pa_cons (pv 1) pa_nil))) (pg_tupK (K := K) (n := 2) rfl rfl (pgs_cons (pg_sub (pv 0) pe_int set_list) (pgs_cons (pg_name (i := 2) sc__law_draw.nd rfl (by first | exact Or.inl rfl | exact Or.inr rfl)) pgs_nil))))
    (pss_one (ps_ret (pv 2)))) pss_nil)
    (pss_cons (ps_asg (pe_op (op_mod) (pe_callTy (call_int1) (by rfl) (z_int T) PyProof.Rows.boot_int (pa_cons (pe_op (op_add) (pe_op (op_mul) (pe_ix ix_list (pv 0) pe_int (fun _ _ => rfl)) pe_int) pe_int) pa_nil)) pe_int) (pg_sub (pv 0) pe_int set_list))
    (pss_one (ps_ret (pe_op (op_mod) (pe_callTy (call_int1) (by rfl) (z_int T) PyProof.Rows.boot_int (pa_cons (pe_op (op_fdiv) (pe_op (op_mod) (pe_callTy (call_int1) (by rfl) (z_int T) PyProof.Rows.boot_int (pa_cons (pe_op (op_mul) (pe_ix ix_list (pv 0) pe_int (fun _ _ => rfl)) (pe_ix ix_list (pv 0) pe_int (fun _ _ => rfl))) pa_nil)) pe_int) pe_int) pa_nil)) (pv 1)))))), ?_⟩
  walk_at "vc"
  obtain ⟨p, n, rfl, ⟨a, b, e, ha, hb, hb2⟩, rfl, h1, h2, q⟩ := h
  refine ixL e (n := 0) rfl rfl ⟨_, rfl, ?_⟩
  split
  · refine ixL e (n := 0) rfl rfl ⟨_, _, ⟨rfl, rfl⟩, ⟨by omega, by omega⟩, fun t ht => ?_⟩
    have np : p ≠ t := fun z => by rw [← z, e] at ht; cases ht
    have e2 : upd H t (.tup [.int (a / n), .int (a % n)]) p = some (.lst [.int a, .int b]) := by rw [upd_ne np]; exact e
    refine ⟨_, SqT.of upd_same, rfl, _, _, rfl, p, _, 0, 0, rfl, rfl, e2, rfl, _, _, rfl, rfl, ?_⟩
    refine q _ _ (((Kp.new ht).of0).trans (.mut (List.mem_singleton_self p))) ⟨a / n, b, upd_same, ?_, hb, hb2⟩ ?_ ?_
    · exact Int.ediv_nonneg ha (by omega)
    · exact Int.emod_nonneg _ (by omega)
    · exact Int.emod_lt_of_pos _ (by omega)
  · refine ixL e (n := 1) rfl rfl ⟨_, rfl, .inr (by omega), .inl ⟨by omega, ?_⟩⟩
    have d1 := Int.emod_nonneg (b * 39373 + 12011) (b := 2147483587) (by omega)
    have d2 := Int.emod_lt_of_pos (b * 39373 + 12011) (b := 2147483587) (by omega)
    generalize (b * 39373 + 12011) % 2147483587 = c at d1 d2
    refine ⟨p, _, 1, 1, rfl, rfl, e, rfl, ?_⟩
    have e2 : upd H p (.lst ([V.int a, V.int b].set 1 (.int c))) p = some (.lst [.int a, .int c]) := upd_same
    refine ixL e2 (n := 1) rfl rfl (ixL e2 (n := 1) rfl rfl ⟨_, rfl, _, rfl, .inl (by omega), .inl ⟨by omega, ⟨by omega, by omega⟩, .inl ⟨_, rfl, by omega, ?_⟩⟩⟩)
    refine q _ _ (.mut (List.mem_singleton_self p)) ⟨a, c, e2, ha, d1, d2⟩ ?_ ?_
    · exact Int.emod_nonneg _ (by omega)
    · exact Int.emod_lt_of_pos _ (by omega)
theorem sc__law_pick : FnScope ["_law_pot_here", "_law_some"] ["_law_pot_here", "_law_some"] (defScope s__law_pick) := ⟨rfl, rfl, rfl, by decide +kernel, rfl, by decide +kernel, by decide +kernel⟩
theorem G__law_pick (T : Tx K mg) : FnG P w K mg base CX0 3 (ga K "_law_pick") (P__law_pick K) := by
  obtain ⟨fd, F⟩ := F__law_pick T
  have b : L2.Binds K fd ["_law_pot_here", "_law_some"] [] := F.bindsN fun _ _ _ _ _ _ us hl => match us, hl with | [_, _], _ => rfl
  refine fnG_pl F sc__law_pick b sp2_len fun cdv A outer s H vs Q E hr h => ?_
  have hu := hr.units
  have hu1 := hr.units1
  obtain ⟨x_pot_here, x_some, rfl, h⟩ := h
  refine ⟨_, PSs.nox (pss_one (ps_ret (pe_ix ix_list (pv 1) (pe_c (call_g (G__law_draw T) (hr.mono (by decide)) pass0) (kp__law_draw T) rfl (g__law_draw T) (pa_cons (pv 0) (pa_cons (pe_callB (call_len_seq) (by rfl) (z_len T) PySem.boot_len (pa_cons (pv 1) pa_nil)) pa_nil))) (fun _ _ => rfl)))), ?_⟩
  walk_at "vc"
  obtain ⟨p, a, ns, rfl, hp, rfl, nap, e, hn, hl, q⟩ := h
  have hlen : 1 ≤ ns.length := by
    cases ns with
    | nil => exact absurd rfl hn
    | cons _ _ => simp
  refine ⟨_, rfl, _, .inl (SqL.of e), ?_⟩
  rw [List.length_map]
  refine ⟨_, _, rfl, p, ns.length, rfl, hp, rfl, by omega, by omega, fun r H' k hp' h0 h1 => ?_⟩
  have e' := k a _ (fun z => nap (List.mem_singleton.mp z)) e
  have hr : r.toNat < ns.length := by omega
  refine ixL e' (n := r.toNat) (by omega) (by rw [List.getElem?_map, List.getElem?_eq_getElem hr]; rfl) (q _ _ k hp' (List.getElem_mem hr))
theorem sc__law_base : FnScope ["_law_pot_here"] ["_law_pot_here"] (defScope s__law_base) := ⟨rfl, rfl, rfl, by decide +kernel, rfl, by decide +kernel, by decide +kernel⟩
theorem G__law_base (T : Tx K mg) : FnG P w K mg base CX0 5 (ga K "_law_base") (P__law_base K) := by
  obtain ⟨fd, F⟩ := F__law_base T
  have b : L2.Binds K fd ["_law_pot_here"] [] := F.bindsN fun _ _ _ _ _ _ us hl => match us, hl with | [_], _ => rfl
  refine fnG_pl F sc__law_base b sp1_len fun cdv A outer s H vs Q E hr h => ?_
  have hu := hr.units
  have hu1 := hr.units1
  obtain ⟨x_pot_here, rfl, h⟩ := h
  refine ⟨_, PSs.nox (pss_one (ps_ret (pe_op (op_sub) (pe_op (op_add) (pe_c (call_g (G__law_pick T) (hr.mono (by decide)) pass0) (kp__law_pick T) rfl (g__law_pick T) (pa_cons (pv 0) (pa_cons (pe_lst (pa_cons pe_int (pa_cons pe_int (pa_cons pe_int (pa_cons (pe_op (op_pow) pe_int pe_int) (pa_cons (pe_un un_neg (pe_op (op_pow) pe_int pe_int)) pa_nil)))))) pa_nil))) (pe_c (call_g (G__law_draw T) (hr.mono (by decide)) pass0) (kp__law_draw T) rfl (g__law_draw T) (pa_cons (pv 0) (pa_cons pe_int pa_nil)))) pe_int))), ?_⟩
  walk_at "vc"
  obtain ⟨p, rfl, hp, q⟩ := h
  have c39 : CPow 10 39 := ⟨by omega, by omega, by decide⟩
  refine ⟨c39, c39, by decide, fun t ht => ?_⟩
  have nt : t ≠ p := fun z => by
    obtain ⟨o, e⟩ := hp.old
    rw [z, e] at ht
    cases ht
  refine ⟨_, _, rfl, p, t, [0, 0, 0, 10 ^ Int.toNat 39, -10 ^ Int.toNat 39], rfl, hp.keep (.new ht) subNil', rfl, nt, upd_same, by simp, by simp, fun r H1 k1 hp1 hr => ?_⟩
  refine ⟨_, _, rfl, p, 7, rfl, hp1, rfl, by omega, by omega, fun u H2 k2 hp2 h0 h7 => ⟨_, rfl, _, rfl, ?_⟩⟩
  refine q _ _ (((Kp.new ht).of0.trans k1).trans k2) hp2 ?_
  have e39 : (10 : Int) ^ Int.toNat 39 = 1000000000000000000000000000000000000000 := by decide +kernel
  rw [e39] at hr
  simp only [List.mem_cons, List.not_mem_nil, or_false] at hr
  omega
theorem sc__law_rows : FnScope ["_law_pot_here", "_law_base_here", "_law_many", "_law_found", "_law_turn", "_law_first", "_law_last"] ["_law_pot_here", "_law_base_here", "_law_many"] (defScope s__law_rows) := ⟨rfl, rfl, rfl, by decide +kernel, rfl, by decide +kernel, by decide +kernel⟩
theorem G__law_rows (T : Tx K mg) : FnG P w K mg base CX0 5 (ga K "_law_rows") (P__law_rows K) := by
  obtain ⟨fd, F⟩ := F__law_rows T
  have b : L2.Binds K fd ["_law_pot_here", "_law_base_here", "_law_many"] [] := F.bindsN fun _ _ _ _ _ _ us hl => match us, hl with | [_, _, _], _ => rfl
  refine fnG_pl F sc__law_rows b sp3_len fun cdv A outer s H vs Q E hr h => ?_
  have hu := hr.units
  have hu1 := hr.units1
  obtain ⟨x_pot_here, x_base_here, x_many, rfl, h⟩ := h
  refine ⟨_, PSs.nox (pss_cons (ps_set (i := 3) sc__law_rows.nd rfl (by first | exact Or.inl rfl | exact Or.inr rfl) (pe_lst pa_nil))
    (pss_cons (ps_for PassesOwn.never rfl (pi_range1 rfl (z_range T) (pa_cons (pv 2) pa_nil)) (pg_name (i := 4) sc__law_rows.nd rfl (by first | exact Or.inl rfl | exact Or.inr rfl))
    (pss_cons (ps_set (i := 5) sc__law_rows.nd rfl (by first | exact Or.inl rfl | exact Or.inr rfl) (pe_op (op_sub) (pe_op (op_add) (pv 1) (pe_c (call_g (G__law_draw T) (hr.mono (by decide)) pass0) (kp__law_draw T) rfl (g__law_draw T) (pa_cons (pv 0) (pa_cons pe_int pa_nil)))) pe_int))
    (pss_cons (ps_set (i := 6) sc__law_rows.nd rfl (by first | exact Or.inl rfl | exact Or.inr rfl) (pe_op (op_add) (pv 5) (pe_c (call_g (G__law_pick T) (hr.mono (by decide)) pass0) (kp__law_pick T) rfl (g__law_pick T) (pa_cons (pv 0) (pa_cons (pe_lst (pa_cons pe_int (pa_cons pe_int (pa_cons pe_int (pa_cons pe_int (pa_cons pe_int (pa_cons (pe_op (op_pow) pe_int pe_int) pa_nil))))))) pa_nil)))))
    (pss_cons (ps_if (pt_cmpR (op_eq) (pe_c (call_g (G__law_draw T) (hr.mono (by decide)) pass0) (kp__law_draw T) rfl (g__law_draw T) (pa_cons (pv 0) (pa_cons pe_int pa_nil))) pe_int (nomark _)) (pss_one (ps_set (i := 5) sc__law_rows.nd rfl (by first | exact Or.inl rfl | exact Or.inr rfl) (pe_op (op_sub) (pv 5) (pe_op (op_pow) pe_int pe_int)))) pss_nil)
    (pss_one (ps_expr (pe_bm PySem.F.plainAttrs_list PySem.F.slot_list_append PySem.F.type_list_append mt_append (pv 3) (pa_cons (pe_tup (pa_cons (pv 5) (pa_cons (pv 6) pa_nil))) pa_nil))))))))
    (pss_one (ps_ret (pv 3))))), ?_⟩
  walk_at "vc"
  obtain ⟨S, p, b, n, oS, hpS, rfl, hp, rfl, hb, rfl, hn, q⟩ := h
  refine ⟨by decide, fun f hf => ?_⟩
  have nfS := oS.no hf
  have nfp : f ≠ p := fun z => nfS (z ▸ hpS)
  refine tFor_it (upd H f (.lst [])) (walk_range (lo := 0) (n := n)) (fun i σ H' => (∃ u v w, σ = [some (.ref p), some (.int b), some (.int n), some (.ref f), u, v, w]) ∧ PotAt H' p ∧ Kp [f, p] H H' ∧ ∃ xs, ∃ rows : List (Int × Int), H' f = some (.lst xs) ∧ DeA (f :: S) H' xs rows ∧ rows.length = i ∧ Ords rows ∧ Bds rows)
    (fun R hR => ?_) ⟨⟨_, _, _, rfl⟩, hp.keep (.new hf) subNil', (Kp.new hf).of0, [], [], upd_same, .nil, rfl, (fun _ h => absurd h List.not_mem_nil), (fun _ h => absurd h List.not_mem_nil)⟩ (fun _ _ _ _ _ => trivial) ?_ ?_
  · walk_at "vc"
    exact ⟨by omega, by omega, hR⟩
  · rintro i x σ H1 H2 hi ⟨⟨u, v, w, rfl⟩, hp1, k1, xs, rows, ef, d, hl, ho, hB⟩ ⟨rfl, rfl⟩
    walk_at "vc"
    have npf : f ∉ [p] := fun z => nfp (List.mem_singleton.mp z)
    have k1S : Old (f :: S) H2 := fun s hs => by
      rcases List.mem_cons.mp hs with z | z
      · exact ⟨_, z ▸ ef⟩
      · by_cases zp : s = p
        · rw [zp]; exact hp1.old
        · obtain ⟨o, e⟩ := oS s z
          refine ⟨o, k1 s o (fun q => ?_) e⟩
          rcases List.mem_cons.mp q with q | q
          · exact nfS (q ▸ z)
          · exact zp (List.mem_singleton.mp q)
    refine ⟨_, _, rfl, p, 9, rfl, hp1, rfl, by omega, by omega, fun d1 Ha ka hpa h0 h9 => ⟨_, rfl, ⟨by omega, by omega, by decide⟩, by decide, fun t ht => ?_⟩⟩
    have ntp : t ≠ p := fun z => by
      obtain ⟨o, e⟩ := hpa.old
      rw [z, e] at ht
      cases ht
    refine ⟨_, _, rfl, p, t, [0, 0, 1, 2, 4, 10 ^ Int.toNat 30], rfl, hpa.keep (.new ht) subNil', rfl, ntp, upd_same, by simp, by simp, fun r Hb kb hpb hr => ⟨_, rfl, ?_⟩⟩
    refine ⟨_, _, rfl, p, 12, rfl, hpb, rfl, by omega, by omega, fun d2 Hc kc hpc h0' h12 => ?_⟩
    have kk : Kp [p] H2 Hc := (((ka.trans (.new ht)).trans kb).trans kc)
    have efc := kk f _ npf ef
    have e30 : (10 : Int) ^ Int.toNat 30 = 1000000000000000000000000000000 := by decide +kernel
    rw [e30] at hr ⊢
    simp only [List.mem_cons, List.not_mem_nil, or_false] at hr
    have sub : ∀ a, a ∈ [p] → a ∈ f :: S := fun a z => by rw [List.mem_singleton.mp z]; exact List.mem_cons_of_mem _ hpS
    have fin : ∀ (A B : Int) (t2 : Addr) (z : V), Hc t2 = none → A ≤ B → Sm A → Sm B → rAppend (.ref f) [.ref t2] (upd Hc t2 (.tup [.int A, .int B])) (fun x H1 => (∃ u, some z = u) ∧ PotAt H1 p ∧ Kp [f, p] H H1 ∧ ∃ xs, H1 f = some (.lst xs) ∧ ∃ x, DeA (f :: S) H1 xs x ∧ x.length = i + 1 ∧ Ords x ∧ Bds x) := by
      intro A B t2 z h2 hAB sA sB
      have nt2f : f ≠ t2 := fun q => by rw [← q, efc] at h2; cases h2
      have oc : Old (f :: S) Hc := k1S.keep kk (fun a q => by rw [List.mem_singleton.mp q]; exact hpc.old)
      have nt2 := oc.no h2
      refine ⟨f, xs, _, rfl, rfl, by rw [upd_ne nt2f]; exact efc, by rw [d.len]; have := sizeLine_eq; omega, ⟨_, rfl⟩, ?_, ?_, _, upd_same, rows ++ [(A, B)], ?_, by simp [hl], ?_, ?_⟩
      · exact (hpc.keep (.new h2) subNil').keep (Kp.mut (S := [f]) (List.mem_singleton_self f)) (fun q => nfp (List.mem_singleton.mp q).symm)
      · exact (((k1.trans (kk.mono fun a q => List.mem_cons_of_mem _ q)).trans (.new h2)).trans (.mut (List.mem_cons_self ..)))
      · show DxA (f :: S) _ _ ((rows ++ [(A, B)]).map enc)
        rw [List.map_append]
        refine DxA.append (DxA.keep (((kk.mono sub).trans (.new h2)).trans (.mut (List.mem_cons_self ..))) d) (.cons ?_ .nil)
        exact Dx.keep (.mut (List.mem_cons_self ..)) (De.mk2 nt2 upd_same)
      · intro q hq
        rcases List.mem_append.mp hq with w | w
        · exact ho q w
        · rw [List.mem_singleton.mp w]; exact hAB
      · intro q hq
        rcases List.mem_append.mp hq with w | w
        · exact hB q w
        · rw [List.mem_singleton.mp w]; exact ⟨sA, sB⟩
    have sm : ∀ z : Int, z.natAbs < 10 ^ 45 → Sm z := fun z hz => Nat.lt_trans hz (by decide +kernel)
    refine rEq_int.mpr ⟨_, rfl, ?_⟩
    split
    · exact ⟨⟨by omega, by omega, by decide⟩, (.inl ⟨rfl, _, SqL.of efc⟩), by decide, fun t2 h2 => fin _ _ t2 _ h2 (by omega) (sm _ (by omega)) (sm _ (by omega))⟩
    · exact ⟨(.inl ⟨rfl, _, SqL.of efc⟩), by decide, fun t2 h2 => fin _ _ t2 _ h2 (by omega) (sm _ (by omega)) (sm _ (by omega))⟩
  · rintro σ H1 ⟨⟨u, v, w, rfl⟩, hp1, k1, xs, rows, ef, d, hl, ho, hB⟩
    walk_at "vc"
    refine q _ _ rows (k1.newS hf) hp1 (De.mkLs nfS ef (DxA.sub d fun _ z => List.mem_cons_of_mem _ z)) hl ho hB
theorem sc__law_past : FnScope ["_law_rows_here", "_law_tome", "_law_row"] ["_law_rows_here"] (defScope s__law_past) := ⟨rfl, rfl, rfl, by decide +kernel, rfl, by decide +kernel, by decide +kernel⟩
theorem G__law_past (T : Tx K mg) : FnG P w K mg base CX0 9 (ga K "_law_past") (P__law_past K) := by
  obtain ⟨fd, F⟩ := F__law_past T
  have b : L2.Binds K fd ["_law_rows_here"] [] := F.bindsN fun _ _ _ _ _ _ us hl => match us, hl with | [_], _ => rfl
  refine fnG_pl F sc__law_past b sp1_len fun cdv A outer s H vs Q E hr h => ?_
  have hu := hr.units
  have hu1 := hr.units1
  obtain ⟨x_rows_here, rfl, h⟩ := h
  refine ⟨_, PSs.nox (pss_cons (ps_set (i := 1) sc__law_past.nd rfl (by first | exact Or.inl rfl | exact Or.inr rfl) (pe_c0 (call_mk (k_History T) (G_History_init T) (hr.mono (by decide)) pass0) (k_History T).kp rfl (g_History T)))
    (pss_cons (ps_for PassesOwn.never rfl (pi_list (pv 0)) (pg_name (i := 2) sc__law_past.nd rfl (by first | exact Or.inl rfl | exact Or.inr rfl))
    (pss_one (ps_set (i := 1) sc__law_past.nd rfl (by first | exact Or.inl rfl | exact Or.inr rfl) (pe_op (op_ownB (b_History_Add T) (bt_History_Add_tuple T) (G_History_add T) (hr.mono (by decide)) pass0) (pv 1) (pv 2)))))
    (pss_one (ps_ret (pv 1))))), ?_⟩
  walk_at "vc"
  obtain ⟨S, rows, oS, hx, ho, hz, q⟩ := h
  obtain ⟨a, xs, rfl, na, ea, d⟩ := hx.ls
  refine mk_History (S := S) (es := []) (Q := fun v H1 => tFor (iList K (tVar 0)) (gName 2) (tAsg (tOp (rOwnT K (ga K "History") "tuple" (P_History_add K) E0) (tVar 1) (tVar 2)) (gName 1)) { nx := tRet (tVar 1) { nx := fun x H' => Q V.non H', rt := Q }, rt := Q } [some (V.ref a), some v, none] H1) oS .nil (fun _ h => absurd h List.not_mem_nil) (by simp) fun v H1 k1 h1 => ?_
  refine tFor_it H1 (walk_list (xs := xs)) (fun i σ H' => (∃ t u, σ = [some (.ref a), some t, u] ∧ Hist K S H' t (rows.take i)) ∧ Kp [] H H') (fun R hR => ⟨_, rfl, _, rfl, ⟨xs, SqL.of (k1 _ _ subNil' ea)⟩, hR⟩) ⟨⟨_, _, rfl, h1⟩, k1⟩ ?_ ?_ ?_
  · rintro i σ H' _ ⟨_, k⟩
    exact SqL.of (k _ _ subNil' ea)
  · rintro i x σ H2 _ hi ⟨⟨t, u, rfl, ht⟩, k⟩ ⟨rfl, hx⟩
    walk_at "vc"
    obtain ⟨r, hr, dr⟩ := d.of hx
    obtain ⟨a2, dx2, t2, xs2, rfl, na2, e2, nt2, et2, d2⟩ := id ht
    have dr2 := dr.keep0 k
    obtain ⟨b, _, _, eb, nb, hb, _, _⟩ := dr2.pair
    cases eb
    refine ⟨a2, dx2, _, rfl, e2, .tup hb, _, _, rfl, S, rows.take i, r, oS.keep0 k, ht, dr2, fun q hq => ho q (List.mem_of_mem_take hq), ho r (List.mem_of_getElem? hr), by rw [List.length_take]; omega, fun v H3 k3 h3 => ⟨?_, k.trans k3⟩⟩
    rw [take_snoc hr]
    exact h3
  · rintro σ H2 ⟨⟨t, u, rfl, ht⟩, k⟩
    walk_at "vc"
    rw [d.len, List.take_length] at ht
    exact q _ _ k ht
theorem sc__law_told : FnScope ["_law_tome", "_law_spot", "_law_some", "_law_number"] ["_law_tome", "_law_spot"] (defScope s__law_told) := ⟨rfl, rfl, rfl, by decide +kernel, rfl, by decide +kernel, by decide +kernel⟩
theorem G__law_told (T : Tx K mg) : FnG P w K mg base CX0 9 (ga K "_law_told") (P__law_told K) := by
  obtain ⟨fd, F⟩ := F__law_told T
  have b : L2.Binds K fd ["_law_tome", "_law_spot"] [] := F.bindsN fun _ _ _ _ _ _ us hl => match us, hl with | [_, _], _ => rfl
  refine fnG_pl F sc__law_told b sp2_len fun cdv A outer s H vs Q E hr h => ?_
  have hu := hr.units
  have hu1 := hr.units1
  obtain ⟨x_tome, x_spot, rfl, h⟩ := h
  refine ⟨_, PSs.nox (pss_cons (ps_set (i := 2) sc__law_told.nd rfl (by first | exact Or.inl rfl | exact Or.inr rfl) (pe_m (call_g (G_History_versions T) (hr.mono (by decide)) pass0) (pv 0) (c_History T) (m_History_versions T) (pa_cons (pv 1) pa_nil)))
    (pss_one (ps_ret (pe_lst (pa_cons (pv 2) (pa_cons (pe_lc rfl sc__law_told.nd (pi_list (pv 2)) (blkOk_by (N := ["_law_tome", "_law_spot", "_law_some", "_law_number"]) (sc := defScope s__law_told) (own := [("_law_number", 3)]) (by decide +kernel)) (fun _ _ _ _ _ => (pg_name (i := 3) sc__law_told.nd rfl (by first | exact Or.inl rfl | exact Or.inr rfl))) (fun _ _ _ _ _ => pts_nil) (fun _ _ _ _ _ => (pe_m (call_g (G_History_stands T) (hr.mono (by decide)) pass0) (pv 0) (c_History T) (m_History_stands T) (pa_cons (pv 1) (pa_cons (pv 3) pa_nil))))) pa_nil)))))), ?_⟩
  walk_at "vc"
  obtain ⟨S, es, c, oS, hh, rfl, hz, q⟩ := h
  obtain ⟨a, dx, t, xs, rfl, na, e, nt, et, d⟩ := id hh
  refine ⟨_, rfl, _, _, e, rfl, _, _, rfl, S, es, c, oS, hh, rfl, hz, fun w H1 k1 dw => ?_⟩
  obtain ⟨b, ys, rfl, nb, eb, db⟩ := id dw.ls
  have oS1 := oS.keep0 k1
  have hh1 := hh.keep0 k1
  refine tLc_d H1 S [] (fun i => ((vers es c).take i).map fun v => (v, stop (vers es c) v (es.length + 1))) (walk_list (xs := ys)) (fun R hR => ⟨_, rfl, _, rfl, ⟨_, SqL.of eb⟩, hR⟩) rfl (fun D i H' p' => p'.seqL subNil' eb) ?_ ?_
  · rintro D i x H2 _ hi pp ⟨rfl, hx⟩
    walk_at "vc"
    obtain ⟨r, hr, dr⟩ := db.of hx
    have er := dr.int
    subst er
    have hl2 := pp.lcH subNil hh1
    obtain ⟨a2, dx2, t2, xs2, e0, na2, e2, nt2, et2, d2⟩ := id hl2
    cases e0
    refine ⟨_, _, e2, rfl, _, _, _, rfl, D :: S, es, c, r, pp.old0 oS1, hl2, rfl, rfl, List.mem_of_getElem? hr, hz, fun u H3 k3 d3 => pp.put k3 Old.nil subNil d3 ?_ ?_⟩
    · rw [take_snoc hr, List.map_append]
      rfl
    · have h1 := db.len
      have h2 := vers_len es c
      have := sizeLine_eq
      rw [List.length_map, List.length_take]
      omega
  · intro D H2 pp
    obtain ⟨k2, dv⟩ := pp.done oS1
    rw [db.len, List.take_length] at dv
    refine ⟨by decide, fun r hr => q _ _ ((k1.trans k2).trans (.new hr)) ?_⟩
    exact De.mkLi2 ((oS1.keep0 k2).no hr) upd_same ((dw.keep k2.of0).keep (.new hr)) (dv.keep (.new hr))
theorem sc__law_behind : FnScope ["_law_told_here", "_law_tome", "_law_row", "_law_spot", "_law_some", "_law_spans", "_law_last", "_law_longer"] ["_law_told_here", "_law_tome", "_law_row", "_law_spot"] (defScope s__law_behind) := ⟨rfl, rfl, rfl, by decide +kernel, rfl, by decide +kernel, by decide +kernel⟩
theorem G__law_behind (T : Tx K mg) : FnG P w K mg base CX0 3 (ga K "_law_behind") (P__law_behind K) := by
  obtain ⟨fd, F⟩ := F__law_behind T
  have b : L2.Binds K fd ["_law_told_here", "_law_tome", "_law_row", "_law_spot"] [] := F.bindsN fun _ _ _ _ _ _ us hl => match us, hl with | [_, _, _, _], _ => rfl
  refine fnG_pl F sc__law_behind b sp4_len fun cdv A outer s H vs Q E hr h => ?_
  have hu := hr.units
  have hu1 := hr.units1
  obtain ⟨x_told_here, x_tome, x_row, x_spot, rfl, h⟩ := h
  refine ⟨_, PSs.nox (pss_cons (ps_asg (pv 0) (pg_unlK (K := K) (n := 2) rfl rfl (pgs_cons (pg_name (i := 4) sc__law_behind.nd rfl (by first | exact Or.inl rfl | exact Or.inr rfl)) (pgs_cons (pg_name (i := 5) sc__law_behind.nd rfl (by first | exact Or.inl rfl | exact Or.inr rfl)) pgs_nil))))
    (pss_cons (ps_set (i := 6) sc__law_behind.nd rfl (by first | exact Or.inl rfl | exact Or.inr rfl) (pe_op (op_add) (pe_pr (pv 1) (c_History T) (p_History_moment T) (G_History_moment T) (hr.mono (by decide)) pass0) pe_int))
    (pss_cons (ps_set (i := 7) sc__law_behind.nd rfl (by first | exact Or.inl rfl | exact Or.inr rfl) (pe_op (op_cat) (pe_slice sl_list (pv 5) po_none (po_some (pe_un un_neg pe_int))) (pe_lst (pa_cons (pe_tup (pa_cons (pe_ix ix_tup (pe_ix ix_list (pv 5) (pe_un un_neg pe_int) (fun _ _ => rfl)) pe_int (fun _ _ => rfl)) (pa_cons (pe_op (op_add) (pe_ix ix_tup (pe_ix ix_list (pv 5) (pe_un un_neg pe_int) (fun _ _ => rfl)) pe_int (fun _ _ => rfl)) pe_int) pa_nil))) pa_nil))))
    (pss_cons (ps_if (PW.pt (pw_and (pt_cmpR (op_le) (pe_ix ix_tup (pv 2) pe_int (fun _ _ => rfl)) (pv 3) (nomark _)) (pw_and1 (pt_cmpR (op_le) (pv 3) (pe_ix ix_tup (pv 2) pe_int (fun _ _ => rfl)) (nomark _))))) (pss_one (ps_ret (pe_lst (pa_cons (pe_op (op_cat) (pv 4) (pe_lst (pa_cons (pv 6) pa_nil))) (pa_cons (pe_op (op_cat) (pv 5) (pe_lst (pa_cons (pe_tup (pa_cons (pv 6) (pa_cons (pe_op (op_add) (pv 6) pe_int) pa_nil))) pa_nil))) pa_nil))))) pss_nil)
    (pss_one (ps_ret (pe_lst (pa_cons (pe_callTy (call_list_of) (by rfl) (z_list T) PyProof.Rows.boot_list (pa_cons (pv 4) pa_nil)) (pa_cons (pv 7) pa_nil))))))))), ?_⟩
  walk_at "vc"
  obtain ⟨S, t, es, p, c, oS, dt, hb, hbl, hal, hh, dp, rfl, q⟩ := h
  obtain ⟨l, x, y, rfl, nl, el, dx, dy⟩ := dt.li2
  obtain ⟨a, dx2, u, xs, rfl, na, e, nt, et, d⟩ := id hh
  refine ⟨_, rfl, _, SqL.of el, rfl, _, _, rfl, _, _, rfl, rfl, _, rfl, ⟨_, _, e⟩, _, rfl, S, es, hh, _, rfl, ?_⟩
  obtain ⟨z, hz⟩ : ∃ z, t.b.getLast? = some z := by
    cases hq : t.b.getLast? with
    | none => exact absurd (List.getLast?_eq_none_iff.mp hq) hb
    | some z => exact ⟨z, rfl⟩
  have hzD : t.b.getLastD (0, 0) = z := by rw [List.getLastD_eq_getLast?, hz]; rfl
  refine slD_init oS dy fun v1 H1 k1 d1 => ?_
  refine ixD_last (dy.keep0 k1) hz fun v2 d2 => ixI0 d2 (ixD_last (dy.keep0 k1) hz fun v3 d3 => ixI1 d3 ⟨_, rfl, by decide, fun p2 h2 => ⟨by decide, fun p3 h3 => ?_⟩⟩)
  have o1 := oS.keep0 k1
  obtain ⟨ka2, f2⟩ := fP z.1 (z.2 + 1) o1 (Dx.int _) (Dx.int _) h2
  have k2 := k1.trans ka2
  have o2 := oS.keep0 k2
  obtain ⟨ka3, f3⟩ := fL [(z.1, z.2 + 1)] o2 (.cons f2 .nil) h3
  have k3 := k2.trans ka3
  have o3 := oS.keep0 k3
  refine catD o3 (d1.keep0 (ka2.trans ka3)) f3 (by rw [List.length_dropLast]; simp; omega) fun v4 H4 k4 d4 => ?_
  have k4' := k3.trans k4
  have o4 := oS.keep0 k4'
  have q2 : ∀ (H5 : Hp) (vx vy : V) (t2 : Li2 (List Int) (List (Int × Int))), Kp [] H H5 → De S H5 vx t2.a → De S H5 vy t2.b → behind t es.length p c = t2 → ∀ r, H5 r = none → Q (.ref r) (upd H5 r (.lst [vx, vy])) := fun H5 vx vy t2 k5 dvx dvy et2 r hr =>
    q _ _ (k5.trans (.new hr)) (by rw [et2]; exact factLi2 (oS.keep0 k5) dvx dvy hr)
  obtain ⟨ax, xs2, rfl, nax, eax, dax⟩ := (dx.keep0 k4').ls
  have copy : tch p c = false → ∃ u, V.ref ax = .ref u ∧ ∃ xs, (SqL K H4 u xs ∨ SqT K H4 u xs) ∧ ∀ l, H4 l = none → 0 + 1 + 1 ≤ sizeLine ∧ ∀ r, upd H4 l (.lst xs) r = none → Q (.ref r) (upd (upd H4 l (.lst xs)) r (.lst [.ref l, v4])) := fun hc =>
    ⟨_, rfl, _, .inl (SqL.of eax), fun l2 hl2 => ⟨by decide, fun r hr => q2 _ _ _ ⟨t.a, t.b.dropLast ++ [(z.1, z.2 + 1)]⟩ (k4'.trans (.new hl2)) (factL o4 dax hl2) (d4.keep0 (.new hl2)) (by unfold behind; rw [if_neg (by rw [hc]; decide), hzD]) r hr⟩⟩
  refine ixI0 (dp.keep0 k4') ⟨_, rfl, _, rfl, ?_⟩
  split
  · rename_i h1
    refine ixI1 (dp.keep0 k4') ⟨_, rfl, _, rfl, ?_⟩
    split
    · rename_i h2'
      have ht : tch p c = true := by unfold tch; rw [h1, h2']; rfl
      refine ⟨by decide, fun r1 hr1 => ?_⟩
      obtain ⟨kb1, g1⟩ := fL [(es.length : Int) + 1] o4 (.cons (Dx.int _) .nil) hr1
      have k5 := k4'.trans kb1
      refine catD (oS.keep0 k5) ((dx.keep0 k4').keep0 kb1) g1 (by simp; omega) fun v6 H6 k6 d6 => ⟨by decide, fun r2 hr2 => ⟨by decide, fun r3 hr3 => ?_⟩⟩
      have k7 := k5.trans k6
      have o7 := oS.keep0 k7
      obtain ⟨kb2, g2⟩ := fP ((es.length : Int) + 1) ((es.length : Int) + 1 + 1) o7 (Dx.int _) (Dx.int _) hr2
      have k8 := k7.trans kb2
      obtain ⟨kb3, g3⟩ := fL [((es.length : Int) + 1, (es.length : Int) + 1 + 1)] (oS.keep0 k8) (.cons g2 .nil) hr3
      have k9 := k8.trans kb3
      refine catD (oS.keep0 k9) (dy.keep0 k9) g3 (by simp; omega) fun v10 H10 k10 d10 => ⟨by decide, fun r hr => ?_⟩
      exact q2 _ _ _ ⟨t.a ++ [(es.length : Int) + 1], t.b ++ [((es.length : Int) + 1, (es.length : Int) + 1 + 1)]⟩ (k9.trans k10) (d6.keep0 ((kb2.trans kb3).trans k10)) d10 (by unfold behind; rw [if_pos ht]) r hr
    · rename_i h2'
      exact copy (by unfold tch; rw [Bool.eq_false_iff.mpr h2', Bool.and_false])
  · rename_i h1
    exact copy (by unfold tch; rw [Bool.eq_false_iff.mpr h1, Bool.false_and])
theorem sc__law_other_strip : FnScope ["_law_rows_here", "_law_by", "_law_sign", "_law_found", "_law_first", "_law_last"] ["_law_rows_here", "_law_by", "_law_sign"] (defScope s__law_other_strip) := ⟨rfl, rfl, rfl, by decide +kernel, rfl, by decide +kernel, by decide +kernel⟩
theorem G__law_other_strip (T : Tx K mg) : FnG P w K mg base CX0 11 (ga K "_law_other_strip") (P__law_other_strip K) := by
  obtain ⟨fd, F⟩ := F__law_other_strip T
  have b : L2.Binds K fd ["_law_rows_here", "_law_by", "_law_sign"] [] := F.bindsN fun _ _ _ _ _ _ us hl => match us, hl with | [_, _, _], _ => rfl
  refine fnG_pl F sc__law_other_strip b sp3_len fun cdv A outer s H vs Q E hr h => ?_
  have hu := hr.units
  have hu1 := hr.units1
  obtain ⟨x_rows_here, x_by, x_sign, rfl, h⟩ := h
  refine ⟨_, PSs.nox (pss_cons (ps_set (i := 3) sc__law_other_strip.nd rfl (by first | exact Or.inl rfl | exact Or.inr rfl) (pe_lst pa_nil))
    (pss_cons (ps_for PassesOwn.never rfl (pi_list (pv 0)) (pg_tupK (K := K) (n := 2) rfl rfl (pgs_cons (pg_name (i := 4) sc__law_other_strip.nd rfl (by first | exact Or.inl rfl | exact Or.inr rfl)) (pgs_cons (pg_name (i := 5) sc__law_other_strip.nd rfl (by first | exact Or.inl rfl | exact Or.inr rfl)) pgs_nil)))
    (pss_one (ps_expr (pe_bm PySem.F.plainAttrs_list PySem.F.slot_list_append PySem.F.type_list_append mt_append (pv 3) (pa_cons (pe_ifExp (pt_cmpR (op_gt) (pv 2) pe_int (nomark _)) (pe_tup (pa_cons (pe_op (op_add) (pv 1) (pv 4)) (pa_cons (pe_op (op_add) (pv 1) (pv 5)) pa_nil))) (pe_tup (pa_cons (pe_op (op_sub) (pv 1) (pv 5)) (pa_cons (pe_op (op_sub) (pv 1) (pv 4)) pa_nil)))) pa_nil)))))
    (pss_one (ps_ret (pe_c (call_g (G__law_past T) (hr.mono (by decide)) pass0) (kp__law_past T) rfl (g__law_past T) (pa_cons (pv 3) pa_nil)))))), ?_⟩
  walk_at "vc"
  obtain ⟨S, rows, b, sg, oS, hx, rfl, rfl, ho, hz, q⟩ := h
  obtain ⟨a, xs, rfl, na, ea, d⟩ := hx.ls
  refine ⟨by decide, fun f hf => ?_⟩
  have nfS := oS.no hf
  have ea1 : upd H f (.lst []) a = some (.lst xs) := (Kp.new (S := []) hf) _ _ subNil' ea
  refine tFor_it (upd H f (.lst [])) (walk_list (xs := xs)) (fun i σ H' => (∃ u v, σ = [some (.ref a), some (.int b), some (.int sg), some (.ref f), u, v]) ∧ Kp [f] H H' ∧ ∃ ys, H' f = some (.lst ys) ∧ DeA (f :: S) H' ys (moved (rows.take i) b sg))
    (fun R hR => ⟨_, rfl, _, rfl, ⟨xs, SqL.of ea1⟩, hR⟩) ⟨⟨_, _, rfl⟩, (Kp.new hf).of0, [], upd_same, .nil⟩ ?_ ?_ ?_
  · rintro i σ H' _ ⟨_, k, _⟩
    exact SqL.of (k _ _ (fun z => by rw [List.mem_singleton.mp z, hf] at ea; cases ea) ea)
  · rintro i x σ H1 H2 hi ⟨⟨u, v, rfl⟩, k, ys, ef, dy⟩ ⟨rfl, hx⟩
    walk_at "vc"
    obtain ⟨r, hr, dr⟩ := d.of hx
    obtain ⟨a2, rfl, na2, e2⟩ := De.ints (dr.keepN hf k subNil)
    have oN := oS.keepN k ef
    have hm : ∀ A B : Int, (if 0 < sg then (b + r.1, b + r.2) else (b - r.2, b - r.1)) = (A, B) → moved (rows.take (i + 1)) b sg = moved (rows.take i) b sg ++ [(A, B)] := fun A B e => by
      unfold moved
      rw [take_snoc hr, List.map_append, List.map_cons, List.map_nil, e]
    have fin : ∀ (A B : Int) (t2 : Addr) (w : Option V), H2 t2 = none → (if 0 < sg then (b + r.1, b + r.2) else (b - r.2, b - r.1)) = (A, B) → rAppend (.ref f) [.ref t2] (upd H2 t2 (.tup [.int A, .int B])) (fun x H1 => (∃ u, w = u) ∧ Kp [f] H H1 ∧ ∃ ys, H1 f = some (.lst ys) ∧ DeA (f :: S) H1 ys (moved (rows.take (i + 1)) b sg)) := by
      intro A B t2 w h2 hAB
      have ntf : f ≠ t2 := fun q => by rw [← q, ef] at h2; cases h2
      have nt2 := oN.no h2
      refine ⟨f, ys, _, rfl, rfl, by rw [upd_ne ntf]; exact ef, ?_, ⟨_, rfl⟩, ?_, _, upd_same, ?_⟩
      · rw [dy.len]
        unfold moved
        rw [List.length_map, List.length_take]
        have := sizeLine_eq
        omega
      · exact (k.trans (.new h2)).trans (.mut (List.mem_singleton_self f))
      · rw [hm A B hAB]
        show DxA (f :: S) _ _ ((moved (rows.take i) b sg ++ [(A, B)]).map enc)
        rw [List.map_append]
        refine DxA.append (DxA.keep ((Kp.new h2).trans (.mut (List.mem_cons_self ..))) dy) (.cons ?_ .nil)
        exact Dx.keep (.mut (List.mem_cons_self ..)) (De.mk2 nt2 upd_same)
    refine ⟨_, rfl, _, SqT.of e2, rfl, _, _, rfl, _, _, rfl, rfl, .inl ⟨rfl, _, SqL.of ef⟩, ?_⟩
    split
    · rename_i hs
      exact ⟨_, rfl, _, rfl, by decide, fun t2 h2 => fin _ _ t2 _ h2 (if_pos (of_decide_eq_true hs))⟩
    · rename_i hs
      exact ⟨_, rfl, _, rfl, by decide, fun t2 h2 => fin _ _ t2 _ h2 (if_neg (by simpa using hs))⟩
  · rintro σ H2 ⟨⟨u, v, rfl⟩, k, ys, ef, dy⟩
    walk_at "vc"
    rw [d.len, List.take_length] at dy
    have k0 := k.newS hf
    refine ⟨_, rfl, S, moved rows b sg, oS.keep0 k0, De.mkLs nfS ef (DxA.sub dy fun _ z => List.mem_cons_of_mem _ z), ?_, by unfold moved; rw [List.length_map]; exact hz, fun v H3 k3 h3 => q v H3 (k0.trans k3) h3⟩
    intro r hr
    obtain ⟨r0, h0, rfl⟩ := List.mem_map.mp hr
    have := ho r0 h0
    split <;> (show _ ≤ _; simp only; omega)
end Hd

set_option Elab.async false
set_option linter.all false
set_option maxRecDepth 100000
set_option maxHeartbeats 4000000
namespace Hd
open PySem PySem.Spec PyProof.Rows L2 He Lw StX
open Lw.En (enc)
local macro_rules | `(tactic| walk_at "vc") => `(tactic| simp only [tSeq, tAsg, tRet, tRetN, tDrop, tNext, tIfS, tNever, tVar, tC, tOp, tUn, tTest, tB, tNot, tAnd, tOr, tAndV, tOrV, tNotV, tIf, tChain, tCmp, t2I, tCB, tCons, tNil, tTup, tLst, tMC, tFld, sFld, tPr, gName, wipe, List.foldl_cons, List.foldl_nil, tYes, iTup, iList, iEnum, iEnumT, iEnumK, iRng1, iRng2, iRng3, gNil, gCons, gTup, gUnl, gSub, tPar, rI, rI0, rU, tIsN, tNotN, tSl, tPart, tNoPart, tThen, rMk, tStar, tBM, tM1,
  assignEach, cxOf, L2.start, List.map_cons, List.map_nil, List.length_cons, List.length_nil, List.replicate, List.cons_append, List.nil_append, List.getElem?_cons_zero, List.getElem?_cons_succ, List.set_cons_zero, List.set_cons_succ, Option.some.injEq, V.int.injEq, V.bl.injEq, V.ref.injEq, V.str.injEq, exists_eq_left', exists_eq_left, exists_eq_right', exists_eq_right, exists_and_left, exists_and_right, true_and, and_true, List.cons.injEq, List.cons_ne_nil, reduceCtorEq, false_and, and_false, exists_false, if_true, if_false, Bool.false_eq_true, Bool.true_eq_false, eq_self, forall_eq, forall_eq', rEq_int, rNe_int, rEq_str, rNe_str])

variable {P : Program} {w : World} {K : Frag} {mg : Str → Option Value} {base : Heap}
theorem tchs_app {es : List (Int × Int)} {p : Int × Int} {c : Int} : ∀ {i : Nat}, i ≤ es.length → tchs (es ++ [p]) c i = tchs es c i
  | 0, _ => rfl
  | i + 1, h => by
    show tchs (es ++ [p]) c i ++ _ = tchs es c i ++ _
    rw [tchs_app (by omega), List.getElem?_append_left (by omega)]
theorem ver_app {es : List (Int × Int)} {p : Int × Int} {c : Int} : ∀ {i : Nat}, i ≤ es.length → ver (es ++ [p]) c i = ver es c i
  | 0, _ => rfl
  | i + 1, h => by
    show (if ((es ++ [p])[i]?.any _) = true then _ else _) = (if (es[i]?.any _) = true then _ else _)
    rw [ver_app (by omega), List.getElem?_append_left (by omega)]
theorem vers_snoc (es : List (Int × Int)) (p : Int × Int) (c : Int) : vers (es ++ [p]) c = vers es c ++ (if tch p c = true then [(es.length : Int) + 1] else []) := by
  unfold vers
  rw [List.length_append]
  show 0 :: (tchs (es ++ [p]) c es.length ++ (if ((es ++ [p])[es.length]?.any fun p => tch p c) = true then _ else _)) = _
  rw [tchs_app (Nat.le_refl _), List.getElem?_concat_length]
  rfl
theorem tchs_mem {es : List (Int × Int)} {c : Int} : ∀ {i : Nat} {x : Int}, x ∈ tchs es c i → 1 ≤ x ∧ x ≤ i
  | 0, x, h => absurd h List.not_mem_nil
  | i + 1, x, h => by
    have h : x ∈ tchs es c i ++ (if (es[i]?.any fun p => tch p c) = true then [((i : Nat) : Int) + 1] else []) := h
    rcases List.mem_append.mp h with h | h
    · have := tchs_mem h
      omega
    · split at h
      · rw [List.mem_singleton.mp h]; omega
      · exact absurd h List.not_mem_nil
theorem vers_mem {es : List (Int × Int)} {c x : Int} (h : x ∈ vers es c) : 0 ≤ x ∧ x ≤ es.length := by
  rcases List.mem_cons.mp h with h | h
  · omega
  · have := tchs_mem h
    omega
theorem tchs_up {es : List (Int × Int)} {c : Int} : ∀ i : Nat, (tchs es c i).Pairwise (· < ·)
  | 0 => .nil
  | i + 1 => by
    show (tchs es c i ++ _).Pairwise _
    refine List.pairwise_append.mpr ⟨tchs_up i, by split <;> simp, fun a ha b hb => ?_⟩
    have := tchs_mem ha
    split at hb
    · rw [List.mem_singleton.mp hb]; omega
    · exact absurd hb List.not_mem_nil
theorem vers_up (es : List (Int × Int)) (c : Int) : (vers es c).Pairwise (· < ·) :=
  List.pairwise_cons.mpr ⟨fun x h => by have := tchs_mem h; omega, tchs_up _⟩
theorem vers_last' {es : List (Int × Int)} {c : Int} : ∀ i : Nat, ((0 : Int) :: tchs es c i).getLast? = some ((ver es c i : Nat) : Int)
  | 0 => rfl
  | i + 1 => by
    show ((0 : Int) :: (tchs es c i ++ (if (es[i]?.any fun p => tch p c) = true then [((i : Nat) : Int) + 1] else []))).getLast? = some (((if (es[i]?.any fun p => tch p c) = true then i + 1 else ver es c i) : Nat) : Int)
    split
    · rw [← List.cons_append, List.getLast?_concat]
      rfl
    · rw [List.append_nil]
      exact vers_last' i
theorem vers_last (es : List (Int × Int)) (c : Int) : (vers es c).getLast? = some ((ver es c es.length : Nat) : Int) := vers_last' _
theorem stop_eq (vs : List Int) (v m : Int) : stop vs v m = ((vs.filter fun n => decide (v < n)).head?).getD m := by
  unfold stop
  split
  · rename_i h; rw [h]; rfl
  · rename_i h; rw [h]; rfl
theorem told_grow (es : List (Int × Int)) (p : Int × Int) (c : Int) : told (es ++ [p]) c = behind (told es c) es.length p c := by
  obtain ⟨ini, hin⟩ := List.getLast?_eq_some_iff.mp (vers_last es c)
  have up := vers_up es c
  have lt : ∀ v ∈ vers es c, v ≤ es.length := fun v h => (vers_mem h).2
  unfold told behind
  rw [vers_snoc, List.length_append, List.length_singleton]
  generalize hm : (es.length : Int) = m at *
  have hm1 : ((es.length + 1 : Nat) : Int) = m + 1 := by omega
  rw [hm1]
  split
  · congr 1
    rw [List.map_append]
    congr 1
    · show List.map (fun v => (v, stop (vers es c ++ [m + 1]) v (m + 1 + 1))) (vers es c) = List.map (fun v => (v, stop (vers es c) v (m + 1))) (vers es c)
      refine List.map_congr_left fun v hv => ?_
      have := lt v hv
      rw [stop_eq, stop_eq, List.filter_append, List.filter_cons, if_pos (by simpa using by omega), List.head?_append]
      cases ((vers es c).filter fun n => decide (v < n)).head? <;> rfl
    · rw [List.map_singleton, stop_eq]
      have : ((vers es c ++ [m + 1]).filter fun n => decide (m + 1 < n)) = [] := by
        rw [List.filter_eq_nil_iff]
        intro x hx
        rcases List.mem_append.mp hx with h | h
        · have := lt x h
          simp; omega
        · rw [List.mem_singleton.mp h]; simp
      rw [this]
      rfl
  · rw [List.append_nil]
    congr 1
    rw [hin] at up lt ⊢
    obtain ⟨_, _, hl⟩ := List.pairwise_append.mp up
    generalize ((ver es c es.length : Nat) : Int) = l at *
    rw [List.map_append, List.map_append, List.map_singleton, List.map_singleton, List.dropLast_concat, List.getLastD_concat]
    have e0 : ((ini ++ [l]).filter fun n => decide (l < n)) = [] := by
      rw [List.filter_eq_nil_iff]
      intro x hx
      rcases List.mem_append.mp hx with h | h
      · have := hl x h l (List.mem_singleton_self l)
        simp; omega
      · rw [List.mem_singleton.mp h]; simp
    congr 1
    · refine List.map_congr_left fun v hv => ?_
      have := hl v hv l (List.mem_singleton_self l)
      rw [stop_eq, stop_eq, List.filter_append, List.filter_cons, if_pos (by simpa using this), List.head?_append]
      cases (ini.filter fun n => decide (v < n)).head? <;> rfl
    · rw [stop_eq, stop_eq, e0]
      rfl
theorem tch_moved (b s c : Int) (p : Int × Int) (hs : s = 1 ∨ s = -1) : tch (if 0 < s then (b + p.1, b + p.2) else (b - p.2, b - p.1)) (b + s * c) = tch p c := by
  unfold tch
  rcases hs with rfl | rfl
  · rw [if_pos (by decide)]
    congr 1 <;> (apply decide_eq_decide.mpr; constructor <;> intro h <;> simp only at * <;> omega)
  · rw [if_neg (by decide), Bool.and_comm]
    congr 1 <;> (apply decide_eq_decide.mpr; constructor <;> intro h <;> simp only at * <;> omega)
theorem tchs_moved (rows : List (Int × Int)) (b s c : Int) (hs : s = 1 ∨ s = -1) : ∀ i : Nat, tchs (moved rows b s) (b + s * c) i = tchs rows c i
  | 0 => rfl
  | i + 1 => by
    show tchs (moved rows b s) _ i ++ _ = tchs rows c i ++ _
    rw [tchs_moved rows b s c hs i]
    congr 2
    unfold moved
    rw [List.getElem?_map]
    cases rows[i]? with
    | none => rfl
    | some p =>
      show (tch _ _ = true) = (tch p c = true)
      rw [tch_moved b s c p hs]
theorem told_moved (rows : List (Int × Int)) (b s c : Int) (hs : s = 1 ∨ s = -1) : told (moved rows b s) (b + s * c) = told rows c := by
  unfold told vers
  rw [tchs_moved rows b s c hs, show (moved rows b s).length = rows.length from List.length_map _]
end Hd

set_option Elab.async false
set_option linter.all false
set_option maxRecDepth 100000
set_option maxHeartbeats 4000000
namespace Hd
open PySem PySem.Spec PyProof.Rows L2 He Lw StX
open Lw.En (enc)
local macro_rules | `(tactic| walk_at "vc") => `(tactic| simp only [tSeq, tAsg, tRet, tRetN, tDrop, tNext, tIfS, tNever, tVar, tC, tOp, tUn, tTest, tB, tNot, tAnd, tOr, tAndV, tOrV, tNotV, tIf, tChain, tCmp, t2I, tCB, tCons, tNil, tTup, tLst, tMC, tFld, sFld, tPr, gName, wipe, List.foldl_cons, List.foldl_nil, tYes, iTup, iList, iEnum, iEnumT, iEnumK, iRng1, iRng2, iRng3, gNil, gCons, gTup, gUnl, gSub, tPar, rI, rI0, rU, tIsN, tNotN, tSl, tPart, tNoPart, tThen, rMk, tStar, tBM, tM1,
  assignEach, cxOf, L2.start, List.map_cons, List.map_nil, List.length_cons, List.length_nil, List.replicate, List.cons_append, List.nil_append, List.getElem?_cons_zero, List.getElem?_cons_succ, List.set_cons_zero, List.set_cons_succ, Option.some.injEq, V.int.injEq, V.bl.injEq, V.ref.injEq, V.str.injEq, exists_eq_left', exists_eq_left, exists_eq_right', exists_eq_right, exists_and_left, exists_and_right, true_and, and_true, List.cons.injEq, List.cons_ne_nil, reduceCtorEq, false_and, and_false, exists_false, if_true, if_false, Bool.false_eq_true, Bool.true_eq_false, eq_self, forall_eq, forall_eq', rEq_int, rNe_int, rEq_str, rNe_str])

variable {P : Program} {w : World} {K : Frag} {mg : Str → Option Value} {base : Heap}
theorem Hist.at {S : List Addr} {H : Hp} {v : V} {es : List (Int × Int)} (h : Hist K S H v es) : ∃ a dx fs, v = .ref a ∧ H a = some (.ins (ga K "History") dx fs) ∧ fs.lookup ("versions" : Str) = none ∧ fs.lookup ("version" : Str) = none ∧ fs.lookup ("until" : Str) = none ∧ fs.lookup ("stands" : Str) = none := by
  obtain ⟨a, dx, t, xs, rfl, na, e, nt, et, d⟩ := h
  exact ⟨a, dx, _, rfl, e, rfl, rfl, rfl, rfl⟩
theorem ver_list {ta rb sp sh la hv : V} {x6 w : Option V} {c : Int} {j : Nat} {S : List Addr} {H : Hp} {Q : VK} {es es' : List (Int × Int)} (hj : ∀ z : Option V, [some ta, some rb, some sp, some sh, some la, some (.int c), x6, z][j]? = some (some hv)) (oS : Old S H) (hT : Hist K S H ta es) (hV : Hist K S H hv es') (hle : es.length ≤ es'.length) (hz : es'.length ≤ 1000)
    (q : ∀ v H', Kp [] H H' → De S H' v ((List.range (es.length + 1)).map fun n => ((ver es' c n : Nat) : Int)) → Q v H') :
    tLc (iRng1 (tCons (tOp (rI0 fun i j => V.int (i + j)) (tPr (ga K "History") (P_History_moment K) E0 (tVar 0)) (tC (V.int 1))) tNil)) (gName 7) tYes
      (tMC (ga K "History") "version" (fun vs H Q => P_History_version K vs H Q E0) (tVar j) (tCons (tVar 5) (tCons (tVar 7) tNil))) [7] [some ta, some rb, some sp, some sh, some la, some (.int c), x6, w] H Q := by
  obtain ⟨a, dx, fs, ea, ha, _⟩ := hT.at
  refine tLc_d H S [] (fun i => (List.range i).map fun n => ((ver es' c n : Nat) : Int)) (walk_range (lo := 0) (n := es.length + 1)) (fun R hR => ?_) rfl (fun _ _ _ _ => trivial) ?_ ?_
  · walk_at "vc"
    subst ea
    refine ⟨a, rfl, ⟨_, _, ha⟩, _, rfl, S, es, hT, _, rfl, by omega, by omega, ?_⟩
    rw [show ((es.length : Int) + 1).toNat = es.length + 1 by omega]
    exact hR
  · rintro D i x H1 H2 hi pp ⟨rfl, rfl⟩
    walk_at "vc"
    have hv2 := pp.lcH subNil hV
    obtain ⟨a2, dx2, fs2, e2, h2, _, lv, _⟩ := hv2.at
    refine ⟨hv, hj _, a2, e2, _, _, h2, lv, _, _, _, rfl, D :: S, es', c, i, hv2, rfl, .inr (by rw [Int.zero_add]), by omega, hz, pp.put .refl Old.nil subNil (v := ((ver es' c i : Nat) : Int)) (Dx.int _) (by rw [List.range_succ, List.map_append]; rfl) ?_⟩
    have := sizeLine_eq
    rw [List.length_map, List.length_range]
    omega
  · intro D H1 pp
    obtain ⟨k, d⟩ := pp.done oS
    exact q _ _ k d
theorem sc__law_grown_right : FnScope ["_law_tome", "_law_row", "_law_spots", "_law_shown", "_law_later", "_law_spot", "_law_told_here", "_law_when"] ["_law_tome", "_law_row", "_law_spots"] (defScope s__law_grown_right) := ⟨rfl, rfl, rfl, by decide +kernel, rfl, by decide +kernel, by decide +kernel⟩
theorem G__law_grown_right (T : Tx K mg) : FnG P w K mg base CX0 11 (ga K "_law_grown_right") (P__law_grown_right K) := by
  obtain ⟨fd, F⟩ := F__law_grown_right T
  have b : L2.Binds K fd ["_law_tome", "_law_row", "_law_spots"] [] := F.bindsN fun _ _ _ _ _ _ us hl => match us, hl with | [_, _, _], _ => rfl
  refine fnG_pl F sc__law_grown_right b sp3_len fun cdv A outer s H vs Q E hr h => ?_
  have hu := hr.units
  have hu1 := hr.units1
  obtain ⟨x_tome, x_row, x_spots, rfl, h⟩ := h
  refine ⟨_, PSs.nox (pss_cons (ps_asg (pe_tup (pa_cons (pe_callB (call_reprOwn (m_History_repr T).at_ (m_History_repr T).fn (G_History_repr T) (hr.mono (by decide)) pass0) (by rfl) (z_repr T) PyProof.Rows.boot_repr (pa_cons (pv 0) pa_nil)) (pa_cons (pe_op (op_ownB (b_History_Add T) (bt_History_Add_tuple T) (G_History_add T) (hr.mono (by decide)) pass0) (pv 0) (pv 1)) pa_nil))) (pg_tupK (K := K) (n := 2) rfl rfl (pgs_cons (pg_name (i := 3) sc__law_grown_right.nd rfl (by first | exact Or.inl rfl | exact Or.inr rfl)) (pgs_cons (pg_name (i := 4) sc__law_grown_right.nd rfl (by first | exact Or.inl rfl | exact Or.inr rfl)) pgs_nil))))
    (pss_cons (ps_for PassesOwn.never rfl (pi_list (pv 2)) (pg_name (i := 5) sc__law_grown_right.nd rfl (by first | exact Or.inl rfl | exact Or.inr rfl))
    (pss_cons (ps_set (i := 6) sc__law_grown_right.nd rfl (by first | exact Or.inl rfl | exact Or.inr rfl) (pe_c (call_g (G__law_told T) (hr.mono (by decide)) pass0) (kp__law_told T) rfl (g__law_told T) (pa_cons (pv 0) (pa_cons (pv 5) pa_nil))))
    (pss_cons (ps_if (pt_cmpR ((op_neD hu)) (pe_c (call_g (G__law_told T) (hr.mono (by decide)) pass0) (kp__law_told T) rfl (g__law_told T) (pa_cons (pv 4) (pa_cons (pv 5) pa_nil))) (pe_c (call_g (G__law_behind T) (hr.mono (by decide)) pass0) (kp__law_behind T) rfl (g__law_behind T) (pa_cons (pv 6) (pa_cons (pv 0) (pa_cons (pv 1) (pa_cons (pv 5) pa_nil))))) (nomark _)) (pss_one (ps_ret pe_bl)) pss_nil)
    (pss_cons (ps_if (pt_cmpR ((op_neD hu)) (pe_lc rfl sc__law_grown_right.nd (pi_range1 rfl (z_range T) (pa_cons (pe_op (op_add) (pe_pr (pv 0) (c_History T) (p_History_moment T) (G_History_moment T) (hr.mono (by decide)) pass0) pe_int) pa_nil)) (blkOk_by (N := ["_law_tome", "_law_row", "_law_spots", "_law_shown", "_law_later", "_law_spot", "_law_told_here", "_law_when"]) (sc := defScope s__law_grown_right) (own := [("_law_when", 7)]) (by decide +kernel)) (fun _ _ _ _ _ => (pg_name (i := 7) sc__law_grown_right.nd rfl (by first | exact Or.inl rfl | exact Or.inr rfl))) (fun _ _ _ _ _ => pts_nil) (fun _ _ _ _ _ => (pe_m (call_g (G_History_version T) (hr.mono (by decide)) pass0) (pv 4) (c_History T) (m_History_version T) (pa_cons (pv 5) (pa_cons (pv 7) pa_nil))))) (pe_lc rfl sc__law_grown_right.nd (pi_range1 rfl (z_range T) (pa_cons (pe_op (op_add) (pe_pr (pv 0) (c_History T) (p_History_moment T) (G_History_moment T) (hr.mono (by decide)) pass0) pe_int) pa_nil)) (blkOk_by (N := ["_law_tome", "_law_row", "_law_spots", "_law_shown", "_law_later", "_law_spot", "_law_told_here", "_law_when"]) (sc := defScope s__law_grown_right) (own := [("_law_when", 7)]) (by decide +kernel)) (fun _ _ _ _ _ => (pg_name (i := 7) sc__law_grown_right.nd rfl (by first | exact Or.inl rfl | exact Or.inr rfl))) (fun _ _ _ _ _ => pts_nil) (fun _ _ _ _ _ => (pe_m (call_g (G_History_version T) (hr.mono (by decide)) pass0) (pv 0) (c_History T) (m_History_version T) (pa_cons (pv 5) (pa_cons (pv 7) pa_nil))))) (nomark _)) (pss_one (ps_ret pe_bl)) pss_nil)
    (pss_one (ps_if (pt_cmpR ((op_neD hu)) (pe_m (call_g (G_History_version_1 T) (hr.mono (by decide)) pass0) (pv 4) (c_History T) (m_History_version T) (pa_cons (pv 5) pa_nil)) (pe_ix ix_list (pe_ix ix_list (pe_c (call_g (G__law_behind T) (hr.mono (by decide)) pass0) (kp__law_behind T) rfl (g__law_behind T) (pa_cons (pv 6) (pa_cons (pv 0) (pa_cons (pv 1) (pa_cons (pv 5) pa_nil))))) pe_int (fun _ _ => rfl)) (pe_un un_neg pe_int) (fun _ _ => rfl)) (nomark _)) (pss_one (ps_ret pe_bl)) pss_nil))))))
    (pss_cons (ps_if (PW.pt (pw_or (pt_cmpR (op_ne) (pe_pr (pv 4) (c_History T) (p_History_moment T) (G_History_moment T) (hr.mono (by decide)) pass0) (pe_op (op_add) (pe_pr (pv 0) (c_History T) (p_History_moment T) (G_History_moment T) (hr.mono (by decide)) pass0) pe_int) (nomark _)) (pw_or (pt_cmpR ((op_neD hu)) (pe_getOwn (get_History T) (G_History_getitem T) (hr.mono (by decide)) pass0 (pv 4) (pe_pr (pv 4) (c_History T) (p_History_moment T) (G_History_moment T) (hr.mono (by decide)) pass0)) (pv 1) (nomark _)) (pw_or1 (pt_cmpR ((op_neO (eq_History T) (G_History_eq T) (hr.mono (by decide)) pass0)) (pe_m (call_g (G_History_until T) (hr.mono (by decide)) pass0) (pv 4) (c_History T) (m_History_until T) (pa_cons (pe_pr (pv 0) (c_History T) (p_History_moment T) (G_History_moment T) (hr.mono (by decide)) pass0) pa_nil)) (pv 0) (nomark _)))))) (pss_one (ps_ret pe_bl)) pss_nil)
    (pss_one (ps_ret (pe_and (pe_cmpR op_eq (pe_callB (call_reprOwn (m_History_repr T).at_ (m_History_repr T).fn (G_History_repr T) (hr.mono (by decide)) pass0) (by rfl) (z_repr T) PyProof.Rows.boot_repr (pa_cons (pv 0) pa_nil)) (pv 3) (nomark _)) (pe_one (pe_cmpR (op_neO (eq_History T) (G_History_eq T) (hr.mono (by decide)) pass0) (pv 4) (pv 0) (nomark _))))))))), ?_⟩
  walk_at "vc"
  obtain ⟨S, es, p, cs, oS, hh, dp, dc, h1, ho, hB, hz, q⟩ := h
  obtain ⟨a, dx, fs, rfl, ea, _⟩ := hh.at
  have hBe : Bds es := fun r hr => hB r (List.mem_append_left _ hr)
  refine ⟨a, dx, fs, rfl, ea, _, rfl, S, es, oS, hh, by omega, hBe, fun H1 k1 => ⟨_, rfl, ?_⟩⟩
  obtain ⟨b, _, _, eb, nb, hb, _, _⟩ := dp.pair
  subst eb
  refine ⟨a, dx, fs, rfl, k1 _ _ subNil' ea, .tup (k1 _ _ subNil' hb), _, _, rfl, S, es, p, oS.keep0 k1, hh.keep0 k1, dp.keep0 k1, ho, h1, by omega, fun later H2 k2 hl => ⟨by decide, fun t ht => ?_⟩⟩
  have k3 : Kp [] H (upd H2 t (.tup [.str (histT es), later])) := (k1.trans k2).trans (.new ht)
  have hl3 : Hist K S (upd H2 t (.tup [.str (histT es), later])) later (es ++ [p]) := hl.keep0 (.new ht)
  refine ⟨_, SqT.of upd_same, rfl, _, _, rfl, _, _, rfl, rfl, ?_⟩
  generalize upd H2 t (.tup [.str (histT es), later]) = H3 at k3 hl3
  obtain ⟨sp, ys, rfl, ns, es3, dys⟩ := (dc.keep0 k3).ls
  have o3 := oS.keep0 k3
  have hh3 := hh.keep0 k3
  have dp3 := dp.keep0 k3
  have ho' : Ords (es ++ [p]) := fun r hr => by
    rcases List.mem_append.mp hr with z | z
    · exact ho r z
    · rw [List.mem_singleton.mp z]; exact h1
  have hlen : (es ++ [p]).length = es.length + 1 := by simp
  refine tFor_it H3 (walk_list (xs := ys)) (fun i σ H' => (∃ u v w, σ = [some (.ref a), some (.ref b), some (.ref sp), some (.str (histT es)), some later, u, v, w]) ∧ Kp [] H3 H') (fun R hR => ⟨_, rfl, _, rfl, ⟨_, SqL.of es3⟩, hR⟩) ⟨⟨_, _, _, rfl⟩, .refl⟩ ?_ ?_ ?_
  · rintro i σ H' _ ⟨_, k⟩
    exact SqL.of (k _ _ subNil' es3)
  · rintro i x σ H4 H5 hi ⟨⟨u, v, w, rfl⟩, k⟩ ⟨rfl, hx⟩
    obtain ⟨c, hc, dcx⟩ := dys.of hx
    have := dcx.int
    subst this
    walk_at "vc"
    have hh5 := hh3.keep0 k
    have hl5 := hl3.keep0 k
    have o5 := o3.keep0 k
    have hz' : (es ++ [p]).length ≤ 1000 := by omega
    have tb : (told es c).b ≠ [] := by simp [told, vers]
    have tbl : (told es c).b.length ≤ 2000 := by
      have := vers_len es c
      show (List.map _ (vers es c)).length ≤ _
      rw [List.length_map]
      omega
    have tal : (told es c).a.length ≤ 2000 := by
      have := vers_len es c
      show (vers es c).length ≤ _
      omega
    refine ⟨_, _, rfl, S, es, c, o5, hh5, rfl, by omega, fun td H6 k6 d6 => ?_⟩
    refine ⟨_, _, rfl, S, es ++ [p], c, o5.keep0 k6, hl5.keep0 k6, rfl, hz', fun tl H7 k7 d7 => ?_⟩
    have kA := k6.trans k7
    refine ⟨_, _, _, _, rfl, S, told es c, es, p, c, o5.keep0 kA, d6.keep0 k7, tb, tbl, tal, hh5.keep0 kA, (dp3.keep0 k).keep0 kA, rfl, fun bh H8 k8 d8 => ?_⟩
    have kB := kA.trans k8
    refine rNeD_of (d7.keep0 k8) d8 (by decide) ⟨_, rfl, ?_⟩
    rw [told_grow, decide_eq_true rfl]
    simp only [Bool.not_true, Bool.false_eq_true, if_false]
    have hvl : ((List.range (es.length + 1)).map fun n => ((ver (es ++ [p]) c n : Nat) : Int)) = (List.range (es.length + 1)).map fun n => ((ver es c n : Nat) : Int) := by
      refine List.map_congr_left fun n hn => ?_
      rw [ver_app (by have := List.mem_range.mp hn; omega)]
    refine ver_list (hv := later) (es' := es ++ [p]) (fun _ => rfl) (o5.keep0 kB) (hh5.keep0 kB) (hl5.keep0 kB) (by omega) hz' fun v1 H9 k9 d9 => ?_
    have kC := kB.trans k9
    refine ver_list (hv := .ref a) (es' := es) (fun _ => rfl) (o5.keep0 kC) (hh5.keep0 kC) (hh5.keep0 kC) (by omega) (by omega) fun v2 H10 k10 d10 => ?_
    have kD := kC.trans k10
    refine rNeD_of (d9.keep0 k10) d10 (by decide) ⟨_, rfl, ?_⟩
    rw [hvl, decide_eq_true rfl]
    simp only [Bool.not_true, Bool.false_eq_true, if_false]
    obtain ⟨la, ldx, lfs, rfl, hla, _, hlv, hlu, _⟩ := (hl5.keep0 kD).at
    refine ⟨_, rfl, _, _, hla, hlv, _, _, _, rfl, S, es ++ [p], c, (es ++ [p]).length, hl5.keep0 kD, rfl, .inl ⟨rfl, rfl⟩, Nat.le_refl _, hz', ?_⟩
    refine ⟨_, _, _, _, rfl, S, told es c, es, p, c, o5.keep0 kD, d6.keep0 (((k7.trans k8).trans k9).trans k10), tb, tbl, tal, hh5.keep0 kD, (dp3.keep0 k).keep0 kD, rfl, fun bh2 H11 k11 d11 => ?_⟩
    refine ixLi0 d11 fun v12 d12 => ixD_last d12 (a := ((ver (es ++ [p]) c (es ++ [p]).length : Nat) : Int)) ?_ fun v13 d13 => ?_
    · rw [← told_grow]
      exact vers_last _ _
    · refine rNeD_of (S := []) (a := ((ver (es ++ [p]) c (es ++ [p]).length : Nat) : Int)) (Dx.int _) d13 (by decide) ⟨_, rfl, ?_⟩
      rw [decide_eq_true rfl]
      simp only [Bool.not_true, Bool.false_eq_true, if_false]
      exact ⟨⟨_, rfl⟩, k.trans (kD.trans k11)⟩
  · rintro σ H4 ⟨⟨u, v, w, rfl⟩, k⟩
    walk_at "vc"
    have hh4 := hh3.keep0 k
    have hl4 := hl3.keep0 k
    have o4 := o3.keep0 k
    have dp4 := dp3.keep0 k
    have kz := k3.trans k
    obtain ⟨ra, rdx, rfs, er, hra, _⟩ := hh4.at
    cases er
    obtain ⟨la, ldx, lfs, rfl, hla, _, hlv, hlu, _⟩ := hl4.at
    refine ⟨_, rfl, ⟨_, _, hla⟩, _, rfl, S, es ++ [p], hl4, ⟨_, _, hra⟩, _, rfl, S, es, hh4, _, rfl, rNe_int.mpr ⟨_, rfl, ?_⟩⟩
    rw [decide_eq_true (show (((es ++ [p]).length : Nat) : Int) = (es.length : Int) + 1 by omega)]
    simp only [Bool.not_true, Bool.false_eq_true, if_false]
    refine ⟨_, rfl, ⟨_, _, hla⟩, _, rfl, S, es ++ [p], hl4, _, _, _, rfl, hla, _, _, rfl, S, es ++ [p], es.length, p, hl4, by rw [hlen]; rfl, List.getElem?_concat_length, fun v dv => ?_⟩
    refine rNeD_of dv dp4 (by decide) ⟨_, rfl, ?_⟩
    rw [decide_eq_true rfl]
    simp only [Bool.not_true, Bool.false_eq_true, if_false]
    refine ⟨_, rfl, _, _, hla, hlu, ⟨_, _, hra⟩, _, rfl, S, es, hh4, ?_⟩
    refine ⟨_, _, rfl, S, es ++ [p], es.length, o4, hl4, rfl, by omega, ho', by omega, fun v2 H5 k5 h5 => ?_⟩
    rw [List.take_left' rfl] at h5
    obtain ⟨ua, udx, ufs, rfl, hua, _⟩ := h5.at
    refine ⟨_, _, _, rfl, hua, .inr ⟨_, _, _, rfl, k5 _ _ subNil' hra⟩, _, _, rfl, S, es, S, es, h5, hh4.keep0 k5, _, rfl, _, rfl, ?_⟩
    rw [decide_eq_true rfl]
    simp only [Bool.not_true, Bool.false_eq_true, if_false]
    have k6 := kz.trans k5
    refine ⟨a, _, _, rfl, k5 _ _ subNil' hra, _, rfl, S, es, oS.keep0 k6, hh4.keep0 k5, by omega, hBe, fun H6 k7 => ⟨_, rfl, rEq_str.mpr ⟨_, rfl, ?_⟩⟩⟩
    rw [decide_eq_true rfl, if_pos rfl]
    have k8 := k5.trans k7
    refine ⟨la, _, _, rfl, k8 _ _ subNil' hla, .inr ⟨a, _, _, rfl, k8 _ _ subNil' hra⟩, _, _, rfl, S, es ++ [p], S, es, hl4.keep0 k8, hh4.keep0 k8, _, rfl, ?_⟩
    rw [decide_eq_false (fun z => by have := congrArg List.length z; omega)]
    exact q _ (kz.trans k8)
theorem sc__law_strips_right : FnScope ["_law_pot_here", "_law_rows_here", "_law_tome", "_law_spots", "_law_by", "_law_sign", "_law_moved", "_law_spot"] ["_law_pot_here", "_law_rows_here", "_law_tome", "_law_spots"] (defScope s__law_strips_right) := ⟨rfl, rfl, rfl, by decide +kernel, rfl, by decide +kernel, by decide +kernel⟩
theorem G__law_strips_right (T : Tx K mg) : FnG P w K mg base CX0 13 (ga K "_law_strips_right") (P__law_strips_right K) := by
  obtain ⟨fd, F⟩ := F__law_strips_right T
  have b : L2.Binds K fd ["_law_pot_here", "_law_rows_here", "_law_tome", "_law_spots"] [] := F.bindsN fun _ _ _ _ _ _ us hl => match us, hl with | [_, _, _, _], _ => rfl
  refine fnG_pl F sc__law_strips_right b sp4_len fun cdv A outer s H vs Q E hr h => ?_
  have hu := hr.units
  have hu1 := hr.units1
  obtain ⟨x_pot_here, x_rows_here, x_tome, x_spots, rfl, h⟩ := h
  refine ⟨_, PSs.nox (pss_cons (ps_set (i := 4) sc__law_strips_right.nd rfl (by first | exact Or.inl rfl | exact Or.inr rfl) (pe_op (op_add) (pe_c (call_g (G__law_pick T) (hr.mono (by decide)) pass0) (kp__law_pick T) rfl (g__law_pick T) (pa_cons (pv 0) (pa_cons (pe_lst (pa_cons pe_int (pa_cons (pe_un un_neg pe_int) (pa_cons (pe_op (op_pow) pe_int pe_int) (pa_cons (pe_un un_neg (pe_op (op_pow) pe_int pe_int)) pa_nil))))) pa_nil))) (pe_c (call_g (G__law_draw T) (hr.mono (by decide)) pass0) (kp__law_draw T) rfl (g__law_draw T) (pa_cons (pv 0) (pa_cons pe_int pa_nil)))))
    (pss_cons (ps_for PassesOwn.never rfl (pi_list (pe_lst (pa_cons pe_int (pa_cons (pe_un un_neg pe_int) pa_nil)))) (pg_name (i := 5) sc__law_strips_right.nd rfl (by first | exact Or.inl rfl | exact Or.inr rfl))
    (pss_cons (ps_set (i := 6) sc__law_strips_right.nd rfl (by first | exact Or.inl rfl | exact Or.inr rfl) (pe_c (call_g (G__law_other_strip T) (hr.mono (by decide)) pass0) (kp__law_other_strip T) rfl (g__law_other_strip T) (pa_cons (pv 1) (pa_cons (pv 4) (pa_cons (pv 5) pa_nil)))))
    (pss_one (ps_if (pt_cmpR ((op_neD hu)) (pe_lc rfl sc__law_strips_right.nd (pi_list (pv 3)) (blkOk_by (N := ["_law_pot_here", "_law_rows_here", "_law_tome", "_law_spots", "_law_by", "_law_sign", "_law_moved", "_law_spot"]) (sc := defScope s__law_strips_right) (own := [("_law_spot", 7)]) (by decide +kernel)) (fun _ _ _ _ _ => (pg_name (i := 7) sc__law_strips_right.nd rfl (by first | exact Or.inl rfl | exact Or.inr rfl))) (fun _ _ _ _ _ => pts_nil) (fun _ _ _ _ _ => (pe_c (call_g (G__law_told T) (hr.mono (by decide)) pass0) (kp__law_told T) rfl (g__law_told T) (pa_cons (pv 6) (pa_cons (pe_op (op_add) (pv 4) (pe_op (op_mul) (pv 5) (pv 7))) pa_nil))))) (pe_lc rfl sc__law_strips_right.nd (pi_list (pv 3)) (blkOk_by (N := ["_law_pot_here", "_law_rows_here", "_law_tome", "_law_spots", "_law_by", "_law_sign", "_law_moved", "_law_spot"]) (sc := defScope s__law_strips_right) (own := [("_law_spot", 7)]) (by decide +kernel)) (fun _ _ _ _ _ => (pg_name (i := 7) sc__law_strips_right.nd rfl (by first | exact Or.inl rfl | exact Or.inr rfl))) (fun _ _ _ _ _ => pts_nil) (fun _ _ _ _ _ => (pe_c (call_g (G__law_told T) (hr.mono (by decide)) pass0) (kp__law_told T) rfl (g__law_told T) (pa_cons (pv 2) (pa_cons (pv 7) pa_nil))))) (nomark _)) (pss_one (ps_ret pe_bl)) pss_nil))))
    (pss_one (ps_ret pe_bl)))), ?_⟩
  walk_at "vc"
  obtain ⟨S, p, rows, cs, oS, hpS, rfl, hp, dr, hh, dc, ho, hz, hcl, q⟩ := h
  refine ⟨⟨by omega, by omega, by decide⟩, ⟨by omega, by omega, by decide⟩, by decide, fun t ht => ?_⟩
  have ntp : t ≠ p := fun z => by
    obtain ⟨o, e⟩ := hp.old
    rw [z, e] at ht
    cases ht
  refine ⟨_, _, rfl, p, t, [1, -7, 10 ^ Int.toNat 20, -10 ^ Int.toNat 38], rfl, hp.keep (.new ht) subNil', rfl, ntp, upd_same, by simp, by simp, fun r H1 k1 hp1 hr => ?_⟩
  refine ⟨_, _, rfl, p, 5, rfl, hp1, rfl, by omega, by omega, fun d H2 k2 hp2 h0 h5 => ⟨_, rfl, _, rfl, ?_⟩⟩
  have sub : ∀ a ∈ [p], a ∈ S := fun a z => by rw [List.mem_singleton.mp z]; exact hpS
  have k0 : Kp [p] H H2 := ((Kp.new ht).of0.trans k1).trans k2
  have oS2 : Old S H2 := oS.keep k0 (fun a z => by rw [List.mem_singleton.mp z]; exact hp2.old)
  have dr2 := Dx.keep (k0.mono sub) dr
  have hh2 := hh.keep (k0.mono sub)
  have dc2 := Dx.keep (k0.mono sub) dc
  obtain ⟨sp, ys, rfl, ns, es3, dys⟩ := De.ls dc2
  refine tFor_new (K := K) [.int 1, .int (-1)] (fun L i σ H' => (∃ u v w, σ = [some (.ref p), some x_rows_here, some x_tome, some (.ref sp), some (.int (r + d)), u, v, w]) ∧ H' L = some (.lst [.int 1, .int (-1)]) ∧ Kp [] H2 H') (fun R hR => ?_) (fun L hL => ⟨⟨_, _, _, rfl⟩, upd_same, .new hL⟩) (fun L i σ H' h => h.2.1) ?_ ?_
  · walk_at "vc"
    exact ⟨by decide, fun L hL => ⟨⟨_, SqL.of upd_same⟩, hR L hL⟩⟩
  · rintro L i x σ H3 hL hx ⟨⟨u, v, w, rfl⟩, eL, k3⟩
    obtain ⟨sg, rfl, hsg⟩ : ∃ s : Int, x = .int s ∧ (s = 1 ∨ s = -1) := by
      match i, hx with
      | 0, hx => cases hx; exact ⟨_, rfl, .inl rfl⟩
      | 1, hx => cases hx; exact ⟨_, rfl, .inr rfl⟩
      | i + 2, hx => simp at hx
    walk_at "vc"
    have o3 := oS2.keep0 k3
    have kp3 : Kp [p] H H3 := k0.trans k3.of0
    refine ⟨_, _, _, rfl, S, rows, r + d, sg, o3, De.keep0 dr2 k3, rfl, rfl, ho, hz, fun mv H4 k4 hm => ?_⟩
    have o4 := o3.keep0 k4
    have k34 := k3.trans k4
    have es4 := k34 _ _ subNil' es3
    have dys4 : DeA S H4 ys cs := DxA.keep k34.of0 dys
    have hmlen : (moved rows (r + d) sg).length ≤ 1000 := by
      unfold moved
      rw [List.length_map]
      omega
    refine tLc_d H4 S [] (fun i => (cs.take i).map fun c => told (moved rows (r + d) sg) (r + d + sg * c)) (walk_list (xs := ys)) (fun R hR => ⟨_, rfl, _, rfl, ⟨_, SqL.of es4⟩, hR⟩) rfl (fun D i H' p' => p'.seqL subNil' es4) ?_ ?_
    · rintro D j x H5 H6 hj pp ⟨rfl, hx⟩
      obtain ⟨c, hc, dcx⟩ := dys4.of hx
      have := dcx.int
      subst this
      walk_at "vc"
      refine ⟨.inl (by omega), ?_⟩
      refine ⟨_, _, rfl, D :: S, moved rows (r + d) sg, r + d + sg * c, pp.old0 o4, pp.lcH subNil hm, rfl, hmlen, fun y H7 k7 d7 => pp.put k7 Old.nil subNil d7 (by rw [take_snoc hc, List.map_append]; rfl) ?_⟩
      rw [List.length_map, List.length_take]
      have := sizeLine_eq
      omega
    · intro D H5 pp
      obtain ⟨k5, d5⟩ := pp.done o4
      have k345 := k34.trans k5
      have es5 := k345 _ _ subNil' es3
      have dys5 : DeA S H5 ys cs := DxA.keep k345.of0 dys
      have o5 := o4.keep0 k5
      refine tLc_d H5 S [] (fun i => (cs.take i).map fun c => told rows c) (walk_list (xs := ys)) (fun R hR => ⟨_, rfl, _, rfl, ⟨_, SqL.of es5⟩, hR⟩) rfl (fun D i H' p' => p'.seqL subNil' es5) ?_ ?_
      · rintro D j x H6 H7 hj pp ⟨rfl, hx⟩
        obtain ⟨c, hc, dcx⟩ := dys5.of hx
        have := dcx.int
        subst this
        walk_at "vc"
        refine ⟨_, _, rfl, D :: S, rows, c, pp.old0 o5, pp.lcH subNil (hh2.keep0 k345), rfl, by omega, fun y H8 k8 d8 => pp.put k8 Old.nil subNil d8 (by rw [take_snoc hc, List.map_append]; rfl) ?_⟩
        rw [List.length_map, List.length_take]
        have := sizeLine_eq
        omega
      · intro D2 H6 pp2
        obtain ⟨k6, d6⟩ := pp2.done o5
        refine rNeD_of (d5.keep0 k6) d6 (by decide) ⟨_, rfl, ?_⟩
        rw [show ((cs.take ys.length).map fun c => told (moved rows (r + d) sg) (r + d + sg * c)) = (cs.take ys.length).map fun c => told rows c from List.map_congr_left fun c _ => told_moved rows (r + d) sg c hsg, decide_eq_true rfl]
        simp only [Bool.not_true, Bool.false_eq_true, if_false]
        exact ⟨⟨_, rfl⟩, (k4.trans (k5.trans k6)) _ _ subNil' eL, k345.trans k6⟩
  · rintro L σ H3 hL ⟨⟨u, v, w, rfl⟩, eL, k3⟩
    walk_at "vc"
    exact q _ (k0.trans k3.of0) (hp2.keep k3 subNil')
end Hd

set_option Elab.async false
set_option linter.all false
set_option maxRecDepth 100000
set_option maxHeartbeats 4000000
namespace Hd
open PySem PySem.Spec PyProof.Rows L2 He Lw StX
open Lw.En (enc)
local macro_rules | `(tactic| walk_at "vc") => `(tactic| simp only [tSeq, tAsg, tRet, tRetN, tDrop, tNext, tIfS, tNever, tVar, tC, tOp, tUn, tTest, tB, tNot, tAnd, tOr, tAndV, tOrV, tNotV, tIf, tChain, tCmp, t2I, tCB, tCons, tNil, tTup, tLst, tMC, tFld, sFld, tPr, gName, wipe, List.foldl_cons, List.foldl_nil, tYes, iTup, iList, iEnum, iEnumT, iEnumK, iRng1, iRng2, iRng3, gNil, gCons, gTup, gUnl, gSub, tPar, rI, rI0, rU, tIsN, tNotN, tSl, tPart, tNoPart, tThen, rMk, tStar, tBM, tM1,
  assignEach, cxOf, L2.start, List.map_cons, List.map_nil, List.length_cons, List.length_nil, List.replicate, List.cons_append, List.nil_append, List.getElem?_cons_zero, List.getElem?_cons_succ, List.set_cons_zero, List.set_cons_succ, Option.some.injEq, V.int.injEq, V.bl.injEq, V.ref.injEq, V.str.injEq, exists_eq_left', exists_eq_left, exists_eq_right', exists_eq_right, exists_and_left, exists_and_right, true_and, and_true, List.cons.injEq, List.cons_ne_nil, reduceCtorEq, false_and, and_false, exists_false, if_true, if_false, Bool.false_eq_true, Bool.true_eq_false, eq_self, forall_eq, forall_eq', rEq_int, rNe_int, rEq_str, rNe_str])

variable {P : Program} {w : World} {K : Frag} {mg : Str → Option Value} {base : Heap}
/-- what stands in the loop over the further rows -/
structure RInv (K : Frag) (p B : Addr) (H0 : Hp) (more : List (Int × Int)) (i : Nat) (rv tv : V) (H' : Hp) : Prop where
  pot : PotAt H' p
  kp : Kp [B, p] H0 H'
  rows : ∃ rows : List (Int × Int), De [B, p] H' rv rows ∧ Hist K [B, p] H' tv rows ∧ rows.length ≤ 10 + i ∧ Ords rows ∧ Bds rows
  both : ∃ bs : List V, H' B = some (.lst bs) ∧ bs.length = i ∧ ∀ (j : Nat) v, bs[j]? = some v → ∃ es r, more[j]? = some r ∧ Hist K [B, p] H' v (es ++ [r]) ∧ es.length ≤ 100 ∧ Bds (es ++ [r])
theorem Hist.keepN {S T : List Addr} {H H' : Hp} {f : Addr} {v : V} {es : List (Int × Int)} (h : Hist K S H v es) (hf : H f = none) (k : Kp (f :: T) H H') (hT : ∀ a ∈ T, a ∈ S) : Hist K (f :: S) H' v es := by
  obtain ⟨a, dx, t, xs, rfl, na, e, nt, et, d⟩ := h
  have dt := (De.mkTu nt et d).keepN hf k hT
  have nD : ∀ {a : Addr} {o : HO}, a ∉ S → H a = some o → a ∉ f :: S ∧ H' a = some o := fun {a o} na e => by
    have ne : a ≠ f := fun z => by rw [z, hf] at e; cases e
    refine ⟨fun z => ?_, k a o (fun z => ?_) e⟩
    · rcases List.mem_cons.mp z with z | z
      · exact ne z
      · exact na z
    · rcases List.mem_cons.mp z with z | z
      · exact ne z
      · exact na (hT a z)
  obtain ⟨n1, e1⟩ := nD na e
  obtain ⟨n2, e2⟩ := nD nt et
  obtain ⟨t', xs', e3, n3, e4, d3⟩ := dt.tu
  cases e3
  rw [e2] at e4
  cases e4
  exact ⟨a, dx, t, _, rfl, n1, e1, n2, e2, d3⟩
theorem histT_ne {es : List (Int × Int)} {r : Int × Int} (h : Bds (es ++ [r])) : histT (es ++ [r]) ≠ histT [] := fun z => by
  have e := congrArg Str.length z
  unfold histT listed at e
  simp only [strLen_append, join_len, List.map_append, List.map_nil, List.map_cons, List.sum_append, List.sum_cons, List.sum_nil, List.length_nil] at e
  have hr := h r (List.mem_append_right _ (List.mem_singleton_self r))
  have := (pair_len hr.1 hr.2).2
  omega
theorem sc__law_right : FnScope ["_law_pot_here", "_law_base_here", "_law_rows_here", "_law_tome", "_law_spots", "_law_k", "_law_more", "_law_both", "_law_row", "_law_place"] ["_law_pot_here"] (defScope s__law_right) := ⟨rfl, rfl, rfl, by decide +kernel, rfl, by decide +kernel, by decide +kernel⟩
theorem G__law_right (T : Tx K mg) : FnG P w K mg base CX0 15 (ga K "_law_right") (P__law_right K) := by
  obtain ⟨fd, F⟩ := F__law_right T
  have b : L2.Binds K fd ["_law_pot_here"] [] := F.bindsN fun _ _ _ _ _ _ us hl => match us, hl with | [_], _ => rfl
  refine fnG_pl F sc__law_right b sp1_len fun cdv A outer s H vs Q E hr h => ?_
  have hu := hr.units
  have hu1 := hr.units1
  obtain ⟨x_pot_here, rfl, h⟩ := h
  refine ⟨_, PSs.nox (pss_cons (ps_set (i := 1) sc__law_right.nd rfl (by first | exact Or.inl rfl | exact Or.inr rfl) (pe_c (call_g (G__law_base T) (hr.mono (by decide)) pass0) (kp__law_base T) rfl (g__law_base T) (pa_cons (pv 0) pa_nil)))
    (pss_cons (ps_set (i := 2) sc__law_right.nd rfl (by first | exact Or.inl rfl | exact Or.inr rfl) (pe_c (call_g (G__law_rows T) (hr.mono (by decide)) pass0) (kp__law_rows T) rfl (g__law_rows T) (pa_cons (pv 0) (pa_cons (pv 1) (pa_cons (pe_c (call_g (G__law_draw T) (hr.mono (by decide)) pass0) (kp__law_draw T) rfl (g__law_draw T) (pa_cons (pv 0) (pa_cons pe_int pa_nil))) pa_nil)))))
    (pss_cons (ps_par (i := 3) (j := 4) rfl sc__law_right.nd rfl rfl (by decide) rfl rfl (pa_cons (pe_c (call_g (G__law_past T) (hr.mono (by decide)) pass0) (kp__law_past T) rfl (g__law_past T) (pa_cons (pv 2) pa_nil)) (pa_cons (pe_lc rfl sc__law_right.nd (pi_range2 rfl (z_range T) (pa_cons (pe_un un_neg pe_int) (pa_cons pe_int pa_nil))) (blkOk_by (N := ["_law_pot_here", "_law_base_here", "_law_rows_here", "_law_tome", "_law_spots", "_law_k", "_law_more", "_law_both", "_law_row", "_law_place"]) (sc := defScope s__law_right) (own := [("_law_k", 5)]) (by decide +kernel)) (fun _ _ _ _ _ => (pg_name (i := 5) sc__law_right.nd rfl (by first | exact Or.inl rfl | exact Or.inr rfl))) (fun _ _ _ _ _ => pts_nil) (fun _ _ _ _ _ => (pe_op (op_add) (pv 1) (pv 5)))) pa_nil)) rfl)
    (pss_cons (ps_set (i := 6) sc__law_right.nd rfl (by first | exact Or.inl rfl | exact Or.inr rfl) (pe_c (call_g (G__law_rows T) (hr.mono (by decide)) pass0) (kp__law_rows T) rfl (g__law_rows T) (pa_cons (pv 0) (pa_cons (pv 1) (pa_cons (pe_op (op_add) pe_int (pe_c (call_g (G__law_draw T) (hr.mono (by decide)) pass0) (kp__law_draw T) rfl (g__law_draw T) (pa_cons (pv 0) (pa_cons pe_int pa_nil)))) pa_nil)))))
    (pss_cons (ps_set (i := 7) sc__law_right.nd rfl (by first | exact Or.inl rfl | exact Or.inr rfl) (pe_lst pa_nil))
    (pss_cons (ps_for PassesOwn.never rfl (pi_list (pv 6)) (pg_name (i := 8) sc__law_right.nd rfl (by first | exact Or.inl rfl | exact Or.inr rfl))
    (pss_cons (ps_if (pt_not (pt_val (pe_c (call_g (G__law_grown_right T) (hr.mono (by decide)) pass0) (kp__law_grown_right T) rfl (g__law_grown_right T) (pa_cons (pv 3) (pa_cons (pv 8) (pa_cons (pv 4) pa_nil)))))) (pss_one (ps_ret pe_bl)) pss_nil)
    (pss_cons (ps_expr (pe_bm PySem.F.plainAttrs_list PySem.F.slot_list_append PySem.F.type_list_append mt_append (pv 7) (pa_cons (pe_op (op_ownB (b_History_Add T) (bt_History_Add_tuple T) (G_History_add T) (hr.mono (by decide)) pass0) (pv 3) (pv 8)) pa_nil)))
    (pss_one (ps_if (pt_cmpR (op_eq) (pe_c (call_g (G__law_draw T) (hr.mono (by decide)) pass0) (kp__law_draw T) rfl (g__law_draw T) (pa_cons (pv 0) (pa_cons pe_int pa_nil))) pe_int (nomark _)) (pss_one (ps_par (i := 2) (j := 3) rfl sc__law_right.nd rfl rfl (by decide) rfl rfl (pa_cons (pe_op (op_cat) (pv 2) (pe_lst (pa_cons (pv 8) pa_nil))) (pa_cons (pe_ix ix_list (pv 7) (pe_un un_neg pe_int) (fun _ _ => rfl)) pa_nil)) rfl)) pss_nil)))))
    (pss_cons (ps_for PassesOwn.never rfl (pi_enum rfl (z_enumerate T) (pa_cons (pv 6) pa_nil)) (pg_tupK (K := K) (n := 2) rfl rfl (pgs_cons (pg_name (i := 9) sc__law_right.nd rfl (by first | exact Or.inl rfl | exact Or.inr rfl)) (pgs_cons (pg_name (i := 8) sc__law_right.nd rfl (by first | exact Or.inl rfl | exact Or.inr rfl)) pgs_nil)))
    (pss_one (ps_if (PW.pt (pw_or (pt_cmpR ((op_neD hu)) (pe_getOwn (get_History T) (G_History_getitem T) (hr.mono (by decide)) pass0 (pe_ix ix_list (pv 7) (pv 9) (fun _ _ => rfl)) (pe_pr (pe_ix ix_list (pv 7) (pv 9) (fun _ _ => rfl)) (c_History T) (p_History_moment T) (G_History_moment T) (hr.mono (by decide)) pass0)) (pv 8) (nomark _)) (pw_or1 (pt_cmpR (op_eq) (pe_callB (call_reprOwn (m_History_repr T).at_ (m_History_repr T).fn (G_History_repr T) (hr.mono (by decide)) pass0) (by rfl) (z_repr T) PyProof.Rows.boot_repr (pa_cons (pe_ix ix_list (pv 7) (pv 9) (fun _ _ => rfl)) pa_nil)) (pe_callB (call_reprOwn (m_History_repr T).at_ (m_History_repr T).fn (G_History_repr T) (hr.mono (by decide)) pass0) (by rfl) (z_repr T) PyProof.Rows.boot_repr (pa_cons (pe_c0 (call_mk (k_History T) (G_History_init T) (hr.mono (by decide)) pass0) (k_History T).kp rfl (g_History T)) pa_nil)) (nomark _))))) (pss_one (ps_ret pe_bl)) pss_nil)))
    (pss_one (ps_ret (pe_and (pe_c (call_g (G__law_strips_right T) (hr.mono (by decide)) pass0) (kp__law_strips_right T) rfl (g__law_strips_right T) (pa_cons (pv 0) (pa_cons (pv 2) (pa_cons (pv 3) (pa_cons (pv 4) pa_nil))))) (pe_one (pe_cmpR (op_eqO (eq_History T) (G_History_eq T) (hr.mono (by decide)) pass0) (pe_c (call_g (G__law_past T) (hr.mono (by decide)) pass0) (kp__law_past T) rfl (g__law_past T) (pa_cons (pv 2) pa_nil)) (pv 3) (nomark _))))))))))))), ?_⟩
  walk_at "vc"
  obtain ⟨p, rfl, hp, q⟩ := h
  have oS : Old [p] H := Old.nil.cons hp.old.choose_spec
  have memp : ∀ a ∈ [p], a ∈ [p] := fun _ h => h
  have oK : ∀ {H1 H2 : Hp}, Old [p] H1 → Kp [p] H1 H2 → PotAt H2 p → Old [p] H2 := fun o k h => o.keep k fun a z => by rw [List.mem_singleton.mp z]; exact h.old
  refine ⟨_, rfl, p, rfl, hp, fun b H1 k1 hp1 hb => ?_⟩
  have o1 := oK oS k1 hp1
  refine ⟨_, _, rfl, p, 8, rfl, hp1, rfl, by omega, by omega, fun n H2 k2 hp2 h0 h8 => ?_⟩
  have o2 := oK o1 k2 hp2
  refine ⟨_, _, _, rfl, [p], p, b, n.toNat, o2, List.mem_singleton_self p, rfl, hp2, rfl, hb, by rw [Int.toNat_of_nonneg h0], by omega, fun rv H3 rows k3 hp3 dr hl ho hB => ?_⟩
  have o3 := oK o2 k3 hp3
  refine ⟨_, rfl, [p], rows, o3, dr, ho, by omega, fun tm H4 k4 hm => ?_⟩
  have o4 := o3.keep0 k4
  have hp4 := hp3.keep k4 subNil'
  refine tLc_d H4 [p] [] (fun i => (List.range i).map fun j : Nat => b + (-5 + (j : Int))) (walk_range (lo := -5) (n := 13)) (fun R hR => ?_) rfl (fun _ _ _ _ => trivial) ?_ ?_
  · walk_at "vc"
    exact ⟨_, _, ⟨rfl, rfl⟩, by omega, hR⟩
  · rintro D i x H5 H6 hi pp ⟨rfl, rfl⟩
    walk_at "vc"
    refine pp.put .refl Old.nil subNil (v := b + (-5 + (i : Int))) (Dx.int _) (by rw [List.range_succ, List.map_append]; rfl) ?_
    have := sizeLine_eq
    rw [List.length_map, List.length_range]
    omega
  · intro D H5 pp
    obtain ⟨k5, ds⟩ := pp.done o4
    have o5 := o4.keep0 k5
    have hp5 := hp4.keep k5 subNil'
    have k05 : Kp [p] H H5 := (((k1.trans k2).trans k3).trans k4.of0).trans k5.of0
    refine ⟨_, _, ⟨rfl, rfl⟩, _, _, rfl, p, 4, rfl, hp5, rfl, by omega, by omega, fun m H6 k6 hp6 h0' h4 => ⟨_, rfl, ?_⟩⟩
    have o6 := oK o5 k6 hp6
    refine ⟨_, _, _, rfl, [p], p, b, (1 + m).toNat, o6, List.mem_singleton_self p, rfl, hp6, rfl, hb, by rw [Int.toNat_of_nonneg (by omega)], by omega, fun mv H7 more k7 hp7 dm hlm hom hBm => ⟨by decide, fun B hB0 => ?_⟩⟩
    have o7 := oK o6 k7 hp7
    have k57 : Kp [p] H5 H7 := k6.trans k7
    have k07 := k05.trans k57
    have kn : Kp [B] H7 (upd H7 B (.lst [])) := (Kp.new hB0).of0
    have nBp : p ≠ B := fun z => by
      obtain ⟨o, e⟩ := hp7.old
      rw [z, hB0] at e
      cases e
    obtain ⟨ma, mxs, rfl, nma, ema, dmx⟩ := dm.ls
    have nmaB : ma ≠ B := fun z => by rw [z, hB0] at ema; cases ema
    have nma2 : ma ∉ [B, p] := fun z => by
      rcases List.mem_cons.mp z with z | z
      · exact nmaB z
      · exact nma z
    have k37 : Kp [p] H3 H7 := (k4.of0.trans k5.of0).trans k57
    have hm7 : Hist K [p] H7 tm rows := hm.keep (k5.of0.trans k57)
    have kN : Kp (B :: [p]) H7 (upd H7 B (.lst [])) := (Kp.new hB0).of0
    have dr8 : De [B, p] _ rv rows := De.keepN (Dx.keep k37 dr) hB0 kN memp
    have hm8 : Hist K [B, p] _ tm rows := hm7.keepN hB0 kN memp
    have ds8 : De [B, p] _ (.ref D) _ := De.keepN (Dx.keep k57 ds) hB0 kN memp
    have dm8 : De [B, p] _ (.ref ma) more := De.keepN dm hB0 kN memp
    have hp8 := hp7.keep (Kp.new (S := []) (o := .lst []) hB0) subNil'
    have eB8 : upd H7 B (.lst []) B = some (.lst []) := upd_same
    have kF : Kp [p] H7 (upd H7 B (.lst [])) := (Kp.new hB0).of0
    have k08 := k07.trans kF
    have bH : H B = none := k07.freeS (fun a z => by rw [List.mem_singleton.mp z]; exact hp7.old) hB0
    have hcs : ((List.range 13).map fun j : Nat => b + (-5 + (j : Int))).length ≤ 100 := by simp
    generalize ((List.range 13).map fun j : Nat => b + (-5 + (j : Int))) = cs at ds8 hcs
    generalize upd H7 B (.lst []) = H8 at dr8 hm8 ds8 dm8 hp8 eB8 k08 kN
    have ema8 := kN _ _ nma2 ema
    have hml : more.length ≤ 5 := by omega
    obtain ⟨_, mxs', e0, _, e1, dmx8⟩ := dm8.ls
    cases e0
    rw [ema8] at e1
    cases e1
    have mB : B ∈ [B, p] := List.mem_cons_self ..
    have mp : p ∈ [B, p] := List.mem_cons_of_mem _ (List.mem_singleton_self p)
    have nBS : B ∉ [p] := fun z => nBp (List.mem_singleton.mp z).symm
    have npS : p ∉ [B] := fun z => nBp (List.mem_singleton.mp z)
    have subp : ∀ a ∈ [p], a ∈ [B, p] := fun a z => List.mem_cons_of_mem _ z
    refine tFor_it H8 (walk_list (xs := mxs)) (fun i σ H' => ∃ rv' tv' u w, σ = [some (.ref p), some (.int b), some rv', some tv', some (.ref D), none, some (.ref ma), some (.ref B), u, w] ∧ RInv K p B H8 more i rv' tv' H') (fun R hR => ⟨_, rfl, _, rfl, ⟨_, SqL.of ema8⟩, hR⟩)
      ⟨rv, tm, _, _, rfl, hp8, .refl, ⟨rows, dr8, hm8, by omega, ho, hB⟩, ⟨[], eB8, rfl, fun j v h => by simp at h⟩⟩ ?_ ?_ ?_
    · rintro i σ H' _ ⟨_, _, _, _, _, I⟩
      exact SqL.of (I.kp _ _ nma2 ema8)
    · rintro i x σ H9 H10 hi ⟨rv', tv', u, w, rfl, I⟩ ⟨rfl, hx⟩
      obtain ⟨pot, kp, ⟨rws, dr9, hm9, hl9, ho9, hB9⟩, ⟨bs, eB9, hbl, hbs⟩⟩ := I
      obtain ⟨r, hr, drx⟩ := dmx.of hx
      obtain ⟨r, hr, drx⟩ := dmx8.of hx
      have o10 : Old [B, p] H10 := (Old.nil.cons pot.old.choose_spec).cons eB9
      have dx10 : De [B, p] H10 x r := Dx.keep kp drx
      have ds10 := Dx.keep kp ds8
      have hrm := List.mem_of_getElem? hr
      have hlm2 := dmx8.len
      have hbd : Bds (rws ++ [r]) := fun z hz => by
        rcases List.mem_append.mp hz with hz | hz
        · exact hB9 z hz
        · rw [List.mem_singleton.mp hz]; exact hBm r hrm
      have hod : Ords (rws ++ [r]) := fun z hz => by
        rcases List.mem_append.mp hz with hz | hz
        · exact ho9 z hz
        · rw [List.mem_singleton.mp hz]; exact hom r hrm
      obtain ⟨ta, tdx, tfs, rfl, hta, _⟩ := hm9.at
      obtain ⟨xa, xu, xv, rfl, nxa, hxa, _, _⟩ := dx10.pair
      walk_at "vc"
      refine ⟨_, _, _, rfl, [B, p], rws, r, cs, o10, hm9, dx10, ds10, hom r hrm, ho9, hbd, by omega, fun H11 k11 => ⟨_, rfl, ?_⟩⟩
      simp only [Bool.not_true, Bool.false_eq_true, if_false]
      refine ⟨.inl ⟨rfl, _, SqL.of (k11 _ _ subNil' eB9)⟩, ta, tdx, tfs, rfl, k11 _ _ subNil' hta, .tup (k11 _ _ subNil' hxa), ?_⟩
      refine ⟨_, _, rfl, [B, p], rws, r, o10.keep0 k11, hm9.keep0 k11, dx10.keep0 k11, ho9, hom r hrm, by omega, fun v H12 k12 h12 => ?_⟩
      have k1112 := k11.trans k12
      have eB12 := k1112 _ _ subNil' eB9
      refine ⟨B, bs, v, rfl, rfl, eB12, by have := sizeLine_eq; omega, ?_⟩
      have kmut : Kp [B] H12 (upd H12 B (.lst (bs ++ [v]))) := .mut (List.mem_singleton_self B)
      have kmut2 : Kp [B, p] H12 (upd H12 B (.lst (bs ++ [v]))) := .mut mB
      have eB13 : upd H12 B (.lst (bs ++ [v])) B = some (.lst (bs ++ [v])) := upd_same
      have pot13 : PotAt (upd H12 B (.lst (bs ++ [v]))) p := (pot.keep k1112 subNil').keep kmut npS
      refine ⟨_, _, rfl, p, 2, rfl, pot13, rfl, by omega, by omega, fun dd H14 k14 pot14 _ _ => rEq_int.mpr ⟨_, rfl, ?_⟩⟩
      have k1214 : Kp [B, p] H12 H14 := kmut2.trans (k14.mono subp)
      have k1014 : Kp [B, p] H10 H14 := k1112.of0.trans k1214
      have eB14 := k14 _ _ nBS eB13
      have o14 : Old [B, p] H14 := (Old.nil.cons pot14.old.choose_spec).cons eB14
      have both14 : ∀ {H'}, Kp [B, p] H14 H' → ∀ (j : Nat) w, (bs ++ [v])[j]? = some w → ∃ es r, more[j]? = some r ∧ Hist K [B, p] H' w (es ++ [r]) ∧ es.length ≤ 100 ∧ Bds (es ++ [r]) := fun k j w hw => by
        by_cases hj : j < bs.length
        · rw [List.getElem?_append_left hj] at hw
          obtain ⟨es, r', h1, h2, h3⟩ := hbs j w hw
          exact ⟨es, r', h1, h2.keep (k1014.trans k), h3⟩
        · have hj2 : j = bs.length := by
            have := (List.getElem?_eq_some_iff.mp hw).1
            simp at this
            omega
          rw [hj2, List.getElem?_concat_length] at hw
          cases hw
          exact ⟨rws, r, by rw [hj2, hbl]; exact hr, h12.keep (k1214.trans k), by omega, hbd⟩
      split
      · refine ⟨by decide, fun t ht => ?_⟩
        obtain ⟨kt, ft⟩ := fL [r] o14 (.cons (Dx.keep k1014 dx10) .nil) ht
        refine catD (o14.keep0 kt) (De.keep0 (Dx.keep k1014 dr9) kt) ft (by simp; omega) fun v16 H16 k16 d16 => ?_
        have kt16 := kt.trans k16
        refine ⟨B, bs ++ [v], _, v, rfl, rfl, SqL.of (kt16 _ _ subNil' eB14), atI_last _ _, _, _, ⟨rfl, rfl⟩, _, _, ⟨rfl, rfl⟩, ?_⟩
        exact ⟨pot14.keep kt16 subNil', (kp.trans k1014).trans kt16.of0, ⟨rws ++ [r], d16, h12.keep (k1214.trans kt16.of0), by simp; omega, hod, hbd⟩, ⟨bs ++ [v], kt16 _ _ subNil' eB14, by simp [hbl], both14 kt16.of0⟩⟩
      · exact ⟨_, _, ⟨rfl, rfl⟩, pot14, kp.trans k1014, ⟨rws, Dx.keep k1014 dr9, hm9.keep k1014, by omega, ho9, hB9⟩, ⟨bs ++ [v], eB14, by simp [hbl], both14 .refl⟩⟩
    · rintro σ H9 ⟨rv', tv', u, w, rfl, I⟩
      obtain ⟨pot, kp, ⟨rws, dr9, hm9, hl9, ho9, hB9⟩, ⟨bs, eB9, hbl, hbs⟩⟩ := I
      walk_at "vc"
      have hlm2 := dmx8.len
      have o9 : Old [B, p] H9 := (Old.nil.cons pot.old.choose_spec).cons eB9
      have ema9 := kp _ _ nma2 ema8
      have dmx9 : DeA [B, p] H9 mxs more := DxA.keep kp dmx8
      refine tFor_it H9 (walk_enum (K := K) (a := ma) (xs := mxs)) (fun i σ H' => (∃ u w, σ = [some (.ref p), some (.int b), some rv', some tv', some (.ref D), none, some (.ref ma), some (.ref B), u, w]) ∧ Kp [] H9 H') (fun R hR => ⟨_, rfl, _, _, rfl, SqL.of ema9, hR⟩) ⟨⟨_, _, rfl⟩, .refl⟩ ?_ ?_ ?_
      · rintro i σ H' _ ⟨_, k⟩
        exact SqL.of (k _ _ subNil' ema9)
      · rintro i x σ H10 H11 hi ⟨⟨u2, w2, rfl⟩, k⟩ ⟨T2, x1, y1, rfl, hT, rfl, h1, h2⟩
        cases h1
        obtain ⟨r, hr, drx⟩ := dmx9.of h2
        have hbi : i < bs.length := by omega
        obtain ⟨es, r', hr', hes, hel, hbd⟩ := hbs i bs[i] (List.getElem?_eq_getElem hbi)
        have hgi := List.getElem?_eq_getElem hbi
        generalize bs[i] = hv at hes hgi
        rw [hr] at hr'
        cases hr'
        walk_at "vc"
        refine ⟨_, SqT.of upd_same, rfl, _, _, rfl, _, _, rfl, rfl, ?_⟩
        have k11 : Kp [] H9 (upd H10 T2 (.tup [.int i, y1])) := k.trans (.new hT)
        generalize upd H10 T2 (.tup [.int i, y1]) = H11 at k11
        have eB11 := k11 _ _ subNil' eB9
        have hes11 := hes.keep0 k11
        have o11 := o9.keep0 k11
        obtain ⟨ha, hdx, hfs, rfl, hha, _⟩ := hes11.at
        refine ixL eB11 (n := i) rfl hgi (ixL eB11 (n := i) rfl hgi ⟨ha, rfl, ⟨_, _, hha⟩, _, rfl, [B, p], es ++ [r], hes11, ?_⟩)
        refine ⟨ha, _, _, rfl, hha, _, _, rfl, [B, p], es ++ [r], es.length, r, hes11, by rw [List.length_append]; rfl, List.getElem?_concat_length, fun v dv => rNeD_of dv (drx.keep0 k11) (by decide) ⟨_, rfl, ?_⟩⟩
        rw [decide_eq_true rfl]
        simp only [Bool.not_true, Bool.false_eq_true, if_false]
        refine ixL eB11 (n := i) rfl hgi ⟨ha, _, _, rfl, hha, _, rfl, [B, p], es ++ [r], o11, hes11, by simp; omega, hbd, fun H12 k12 => ⟨_, rfl, ?_⟩⟩
        refine mk_History (es := []) (S := [B, p]) (Q := fun v H2 => rRepr (ga K "History") (P_History_repr K) E0 [v] H2 _) (o11.keep0 k12) .nil (fun _ h => absurd h List.not_mem_nil) (by simp) fun v H13 k13 h13 => ?_
        obtain ⟨va, vdx, vfs, rfl, hva, _⟩ := h13.at
        refine ⟨va, _, _, rfl, hva, _, rfl, [B, p], [], (o11.keep0 k12).keep0 k13, h13, by simp, (fun _ h => absurd h List.not_mem_nil), fun H14 k14 => ⟨_, rfl, rEq_str.mpr ⟨_, rfl, ?_⟩⟩⟩
        rw [decide_eq_false (histT_ne hbd)]
        simp only [Bool.false_eq_true, if_false]
        exact ⟨⟨_, rfl⟩, ((k11.trans k12).trans k13).trans k14⟩
      · rintro σ H10 ⟨⟨u2, w2, rfl⟩, k⟩
        walk_at "vc"
        have o10 := o9.keep0 k
        have pot10 := pot.keep k subNil'
        refine ⟨_, _, _, _, rfl, [B, p], p, rws, cs, o10, mp, rfl, pot10, De.keep0 dr9 k, hm9.keep0 k, De.keep0 (Dx.keep kp ds8) k, ho9, by omega, hcs, fun H11 k11 pot11 => ⟨_, rfl, ?_⟩⟩
        rw [if_pos rfl]
        have k911 : Kp [B, p] H9 H11 := k.of0.trans (k11.mono subp)
        have o11 : Old [B, p] H11 := (Old.nil.cons pot11.old.choose_spec).cons (k911 |> fun _ => k11 _ _ nBS (k _ _ subNil' eB9))
        refine ⟨_, rfl, [B, p], rws, o11, Dx.keep k911 dr9, ho9, by omega, fun v H12 k12 h12 => ?_⟩
        have hm12 := (hm9.keep k911).keep0 k12
        obtain ⟨va, vdx, vfs, rfl, hva, _⟩ := h12.at
        obtain ⟨ta, tdx, tfs, rfl, hta, _⟩ := hm12.at
        refine ⟨va, _, _, rfl, hva, .inr ⟨ta, _, _, rfl, hta⟩, _, _, rfl, [B, p], rws, [B, p], rws, h12, hm12, _, rfl, ?_⟩
        rw [decide_eq_true rfl]
        exact q _ (Kp.newS ((k08.mono subp).trans ((kp.trans k911).trans k12.of0)) bH)
theorem SqL_kp {S : List Addr} {H H' : Hp} {a : Addr} {xs : List V} (h : SqL K H a xs) (k : Kp S H H') (n : ∀ o, H a = some o → a ∉ S) : SqL K H' a xs := by
  rcases h with (h | ⟨ob, h⟩) | h
  · exact .inl (.inl (k a _ (n _ h) h))
  · exact .inl (.inr ⟨ob, k a _ (n _ h) h⟩)
  · exact .inr h
theorem sc_law : FnScope ["_law_script", "_law_k"] ["_law_script"] (defScope s_law) := ⟨rfl, rfl, rfl, by decide +kernel, rfl, by decide +kernel, by decide +kernel⟩
theorem G_law (T : Tx K mg) : FnG P w K mg base CX0 17 (ga K "law") (P_law K) := by
  obtain ⟨fd, F⟩ := F_law T
  have b : L2.Binds K fd ["_law_script"] [] := F.bindsN fun _ _ _ _ _ _ us hl => match us, hl with | [_], _ => rfl
  refine fnG_pl F sc_law b sp1_len fun cdv A outer s H vs Q E hr h => ?_
  have hu := hr.units
  have hu1 := hr.units1
  obtain ⟨x_script, rfl, h⟩ := h
  refine ⟨_, PSs.nox (pss_one (ps_ret (pe_callB (cr_all rfl) (by rfl) (z_all T) PyProof.Rows.boot_all (pa_cons (pe_lc rfl sc_law.nd (pi_range1 rfl (z_range T) (pa_cons (pe_callB (call_max2 rfl) (by rfl) (z_max T) PyProof.Rows.boot_max (pa_cons pe_int (pa_cons (pe_callB (call_min2 rfl) (by rfl) (z_min T) PyProof.Rows.boot_min (pa_cons (pe_callB (call_len_seq) (by rfl) (z_len T) PySem.boot_len (pa_cons (pv 0) pa_nil)) (pa_cons pe_int pa_nil))) pa_nil))) pa_nil)) (blkOk_by (N := ["_law_script", "_law_k"]) (sc := defScope s_law) (own := [("_law_k", 1)]) (by decide +kernel)) (fun _ _ _ _ _ => (pg_name (i := 1) sc_law.nd rfl (by first | exact Or.inl rfl | exact Or.inr rfl))) (fun _ _ _ _ _ => pts_nil) (fun _ _ _ _ _ => (pe_c (call_g (G__law_right T) (hr.mono (by decide)) pass0) (kp__law_right T) rfl (g__law_right T) (pa_cons (pe_c (call_g (G__law_pot T) (hr.mono (by decide)) pass0) (kp__law_pot T) rfl (g__law_pot T) (pa_cons (pv 0) (pa_cons (pv 1) pa_nil))) pa_nil)))) pa_nil)))), ?_⟩
  walk_at "vc"
  obtain ⟨a, ns, rfl, hq, hz, q⟩ := h
  refine tLc_d H [] [] (fun i => List.replicate i true) (walk_range (lo := 0) (n := max 1 (min ns.length 4))) (fun R hR => ?_) rfl (fun _ _ _ _ => trivial) ?_ ?_
  · walk_at "vc"
    refine ⟨_, .inl hq, _, _, ⟨rfl, rfl⟩, _, _, ⟨rfl, rfl⟩, ?_⟩
    rw [List.length_map]
    have e : (if (if (4 : Int) < (ns.length : Int) then 4 else (ns.length : Int)) > 1 then (if (4 : Int) < (ns.length : Int) then 4 else (ns.length : Int)) else 1) = ((max 1 (min ns.length 4) : Nat) : Int) := by
      split <;> split <;> omega
    rw [e]
    exact ⟨by omega, by omega, by rw [Int.toNat_natCast]; exact hR⟩
  · rintro D i x H1 H2 hi pp ⟨rfl, rfl⟩
    walk_at "vc"
    have hq2 : SqL K H2 a (ns.map V.int) := SqL_kp hq pp.kp fun o e z => by
      rw [List.mem_singleton.mp z, pp.new] at e
      cases e
    refine ⟨_, _, rfl, a, ns, i, rfl, hq2, by rw [Int.zero_add], by omega, fun t H3 k3 hn hp => ⟨t, rfl, hp, fun H4 k4 => ?_⟩⟩
    refine pp.put ((k3.of0.trans k4).newS hn) Old.nil subNil (v := true) (Dx.bl true) (by rw [List.replicate_succ']) ?_
    have := sizeLine_eq
    rw [List.length_replicate]
    omega
  · intro D H1 pp
    obtain ⟨k, d⟩ := pp.done Old.nil
    obtain ⟨b, ys, e1, nb, eb, db⟩ := d.ls
    cases e1
    have eb2 := db.bools
    subst eb2
    refine ⟨D, _, rfl, SqL.of eb, ?_⟩
    rw [show (List.replicate (max 1 (min ns.length 4)) true).all id = true by simp]
    exact q _
end Hd

set_option Elab.async false
set_option linter.all false
set_option maxRecDepth 100000
set_option maxHeartbeats 4000000
namespace Hd
open PySem PySem.Spec PyProof.Rows L2 He Lw StX
open Lw.En (enc)
local macro_rules | `(tactic| walk_at "vc") => `(tactic| simp only [tSeq, tAsg, tRet, tRetN, tDrop, tNext, tIfS, tNever, tVar, tC, tOp, tUn, tTest, tB, tNot, tAnd, tOr, tAndV, tOrV, tNotV, tIf, tChain, tCmp, t2I, tCB, tCons, tNil, tTup, tLst, tMC, tFld, sFld, tPr, gName, wipe, List.foldl_cons, List.foldl_nil, tYes, iTup, iList, iEnum, iEnumT, iEnumK, iRng1, iRng2, iRng3, gNil, gCons, gTup, gUnl, gSub, tPar, rI, rI0, rU, tIsN, tNotN, tSl, tPart, tNoPart, tThen, rMk, tStar, tBM, tM1,
  assignEach, cxOf, L2.start, List.map_cons, List.map_nil, List.length_cons, List.length_nil, List.replicate, List.cons_append, List.nil_append, List.getElem?_cons_zero, List.getElem?_cons_succ, List.set_cons_zero, List.set_cons_succ, Option.some.injEq, V.int.injEq, V.bl.injEq, V.ref.injEq, V.str.injEq, exists_eq_left', exists_eq_left, exists_eq_right', exists_eq_right, exists_and_left, exists_and_right, true_and, and_true, List.cons.injEq, List.cons_ne_nil, reduceCtorEq, false_and, and_false, exists_false, if_true, if_false, Bool.false_eq_true, Bool.true_eq_false, eq_self, forall_eq, forall_eq', rEq_int, rNe_int, rEq_str, rNe_str])

variable {P : Program} {w : World} {K : Frag} {mg : Str → Option Value} {base : Heap}
theorem Tx.of {h : Heap} (X : K.In h) (G : h.Ns mainGlobals mg) (c : SaysB fs fn K) : Tx K mg := ⟨c, fun x hx => He.glo_ok X G hx, fun x hx => He.free_ok X G hx⟩
end Hd
open PySem PySem.W PySem.Calls PyProof.Rows
set_option maxHeartbeats 0 in
theorem PySem.Challenge.cw_onceseen_k12_whole_histories_that_grow_holds : PySem.Challenge.rw_onceseen_k12_whole_histories_that_grow.Holds := by
  w_on; o_law
  refine HandSHeadRun.head_any (r := OpenLaw.row PySem.Challenge.rw_onceseen_k12_whole_histories_that_grow) (q := view (OpenLaw.row PySem.Challenge.rw_onceseen_k12_whole_histories_that_grow).prog [Hd.ilaw]) (H := Hd.hk) (ob := Hd.ob) (M := 4000) (loose := Hd.loose) (d := HandSHeadRun.topDef (OpenLaw.row PySem.Challenge.rw_onceseen_k12_whole_histories_that_grow).prog Hd.ilaw) (kwd := []) Hd.ob_eq
    (by kernel_rfl) (fun s => by kernel_rfl) Hd.run (by kernel_rfl) (by kernel_rfl) (by kernel_rfl) (by rfl) (by first | assumption | decide +kernel) (by decide +kernel) ⟨rfl, rfl, rfl, rfl, rfl, by decide +kernel⟩ ?hw ?hc
  case hw => w_witness2
  case hc =>
    refine Lw.end_law (l := PySem.Challenge.rw_onceseen_k12_whole_histories_that_grow) (n := 63) (k := 17) rfl (by decide) (by kernel_rfl) ⟨rfl, by decide, by decide⟩ ?F
    intro w mg fa h Y G hmg0
    obtain ⟨K, KX, c⟩ := Y
    have T := Hd.Tx.of KX G c
    have hmg : mg ("law" : PySem.Str) = some (.ref fa) := by
      have e : (HandSHeadRun.topDef (OpenLaw.row PySem.Challenge.rw_onceseen_k12_whole_histories_that_grow).prog Hd.ilaw).name = ("law" : PySem.Str) := by kernel_rfl
      rw [← e]
      exact hmg0
    have e := hmg.symm.trans (Hd.g_law T)
    cases e
    exact ⟨K, Hd.P_law K, KX, fun H a ns hl hS => ⟨_, rfl, a, ns, rfl, hS, hl, fun _ => rfl⟩, fun base _ _ => Hd.G_law T⟩
namespace Hd
end Hd

