import PyProof.Rows.All
import Wide.All
import OpenK.AllK
import Wide.FinOn
import PySem.Challenge.RW_manydeep_k00_errors_by_position_and_name
import HandS.ForMost
import HandS.ForExc
import HandS.EndBits
import HandS.ExcInit
import HandS.ExcField
import HandS.IsInst
import HandS.TryMany
import KE.KExcIs
import KE.KExcInit
import HandS.ExcIs
import PyProof.ReprLen
import HandS.Wide
import HandS.Style
import HandS.Conv
import HandS.Codes
import HandS.Iter
import HandS.Walk
import HandS.HeadHook1
set_option Elab.async false
set_option linter.all false
set_option maxRecDepth 100000
section
set_option maxHeartbeats 2000000
/-! repr of data that stands on the abstract heap: lists, tuples, dicts with int and text keys, at any depth -/
namespace KD
open PySem PySem.Spec PyProof.Rows L2

def keyD : Key → PyData
  | .inl i => .int i
  | .inr x => .str x

mutual
/-- v is the datum d by the abstract heap H -/
def Dat (H : Hp) : PyData → V → Prop
  | .none, v => v = .non
  | .bool b, v => v = .bl b
  | .int i, v => v = .int i
  | .str x, v => v = .str x
  | .list ds, v => ∃ (a : Addr) (xs : List V), v = .ref a ∧ H a = some (.lst xs) ∧ DatL H ds xs
  | .tuple ds, v => ∃ (a : Addr) (xs : List V), v = .ref a ∧ H a = some (.tup xs) ∧ DatL H ds xs
  | .dict ks, v => ∃ (a : Addr) (kvs : List (Key × V)), v = .ref a ∧ H a = some (.dK kvs) ∧ DatK H ks kvs
def DatL (H : Hp) : List PyData → List V → Prop
  | [], xs => xs = []
  | d :: ds, xs => ∃ (x : V) (r : List V), xs = x :: r ∧ Dat H d x ∧ DatL H ds r
def DatK (H : Hp) : List (PyData × PyData) → List (Key × V) → Prop
  | [], kvs => kvs = []
  | (k, d) :: ds, kvs => ∃ (p : Key × V) (r : List (Key × V)), kvs = p :: r ∧ k = keyD p.1 ∧ Dat H d p.2 ∧ DatK H ds r
end

mutual
theorem Dat.mono {H H' : Hp} (s : ∀ b o, H b = some o → H' b = some o) : ∀ (d : PyData) (v : V), Dat H d v → Dat H' d v
  | .none, _, h => h
  | .bool _, _, h => h
  | .int _, _, h => h
  | .str _, _, h => h
  | .list ds, _, h => by
    obtain ⟨a, xs, e, ha, hl⟩ := h
    exact ⟨a, xs, e, s _ _ ha, DatL.mono s ds xs hl⟩
  | .tuple ds, _, h => by
    obtain ⟨a, xs, e, ha, hl⟩ := h
    exact ⟨a, xs, e, s _ _ ha, DatL.mono s ds xs hl⟩
  | .dict ks, _, h => by
    obtain ⟨a, xs, e, ha, hl⟩ := h
    exact ⟨a, xs, e, s _ _ ha, DatK.mono s ks xs hl⟩
theorem DatL.mono {H H' : Hp} (s : ∀ b o, H b = some o → H' b = some o) : ∀ (ds : List PyData) (xs : List V), DatL H ds xs → DatL H' ds xs
  | [], _, h => h
  | d :: ds, _, h => by
    obtain ⟨x, r, e, h1, h2⟩ := h
    exact ⟨x, r, e, Dat.mono s d x h1, DatL.mono s ds r h2⟩
theorem DatK.mono {H H' : Hp} (s : ∀ b o, H b = some o → H' b = some o) : ∀ (ks : List (PyData × PyData)) (kvs : List (Key × V)), DatK H ks kvs → DatK H' ks kvs
  | [], _, h => h
  | (k, d) :: ds, _, h => by
    obtain ⟨p, r, e, h0, h1, h2⟩ := h
    exact ⟨p, r, e, h0, Dat.mono s d p.2 h1, DatK.mono s ds r h2⟩
end

theorem key_reads {P : Program} {w : World} {h : Heap} {k : Key} {u : Value} (q : (mixKind P w).is k u = true) : Reads h u (keyD k) [] := by
  rcases keyIs_shape (k := k) (v := u) q with ⟨i, t, rfl, rfl⟩ | ⟨x, t, rfl, rfl⟩
  · exact .int i t
  · exact .str x t

mutual
theorem dat_reads {P : Program} {w : World} {H : Hp} {h : Heap} (ok : HOk P w H h) (hs : H sysModules = none) : ∀ (d : PyData) (v : V) (u : Value), Dat H d v → RelV v u → ∃ as, Reads h u d as ∧ sysModules ∉ as
  | .none, v, u, e, r => by
    cases (show v = .non from e)
    cases (show u = Value.none from r)
    exact ⟨[], .none, by simp⟩
  | .bool b, v, u, e, r => by
    cases (show v = .bl b from e)
    cases (show u = Value.bool b from r)
    exact ⟨[], .bool b, by simp⟩
  | .int i, v, u, e, r => by
    cases (show v = .int i from e)
    obtain ⟨t, rfl⟩ := (show ∃ t, u = Value.int i t from r)
    exact ⟨[], .int i t, by simp⟩
  | .str x, v, u, e, r => by
    cases (show v = .str x from e)
    obtain ⟨t, rfl⟩ := (show ∃ t, u = Value.str x t from r)
    exact ⟨[], .str x t, by simp⟩
  | .list ds, v, u, e, r => by
    obtain ⟨a, xs, rfl, ha, hl⟩ := e
    cases (show u = Value.ref a from r)
    obtain ⟨_, its, n, rv, ho⟩ := (show ObjOk P w H h a (.lst xs) from ok a _ ha)
    obtain ⟨as, q, z⟩ := datL_reads ok hs ds xs its hl rv
    refine ⟨a :: as, .list ho rfl rfl q, fun m => ?_⟩
    rcases List.mem_cons.mp m with e1 | m
    · rw [← e1, hs] at ha
      cases ha
    · exact z m
  | .tuple ds, v, u, e, r => by
    obtain ⟨a, xs, rfl, ha, hl⟩ := e
    cases (show u = Value.ref a from r)
    obtain ⟨_, its, rv, o, ho, hc, n, hd⟩ := (show ObjOk P w H h a (.tup xs) from ok a _ ha)
    obtain ⟨as, q, z⟩ := datL_reads ok hs ds xs its hl rv
    exact ⟨as, .tuple ho hc hd q, z⟩
  | .dict ks, v, u, e, r => by
    obtain ⟨a, kvs, rfl, ha, hl⟩ := e
    cases (show u = Value.ref a from r)
    obtain ⟨_, hb, vs, rk, o, es, ep, ho, hx, hd, _, hp, _⟩ := (show ObjOk P w H h a (.dK kvs) from ok a _ ha)
    obtain ⟨as, bs, q1, q2, z1, z2⟩ := datK_reads ok hs ks kvs vs es.toList hl rk hp
    refine ⟨a :: as ++ bs, .dict ho hx.1 hd q1 q2, fun m => ?_⟩
    rcases List.mem_append.mp m with m | m
    · rcases List.mem_cons.mp m with e1 | m
      · rw [← e1, hs] at ha
        cases ha
      · exact z1 m
    · exact z2 m
theorem datL_reads {P : Program} {w : World} {H : Hp} {h : Heap} (ok : HOk P w H h) (hs : H sysModules = none) : ∀ (ds : List PyData) (xs : List V) (us : List Value), DatL H ds xs → Vals xs us → ∃ as, ReadsAll h us ds as ∧ sysModules ∉ as
  | [], xs, us, e, r => by
    cases (show xs = [] from e)
    cases r
    exact ⟨[], .nil, by simp⟩
  | d :: ds, xs, us, e, r => by
    obtain ⟨x, t, rfl, h1, h2⟩ := e
    cases r with
    | cons r1 r2 =>
      obtain ⟨as, q1, z1⟩ := dat_reads ok hs d x _ h1 r1
      obtain ⟨bs, q2, z2⟩ := datL_reads ok hs ds t _ h2 r2
      exact ⟨as ++ bs, .cons q1 q2, fun m => (List.mem_append.mp m).elim z1 z2⟩
theorem datK_reads {P : Program} {w : World} {H : Hp} {h : Heap} (ok : HOk P w H h) (hs : H sysModules = none) : ∀ (ks : List (PyData × PyData)) (kvs : List (Key × V)) (vs : List (Key × Value)) (es : List DictEntry),
    DatK H ks kvs → KV kvs vs → Pairs (mixKind P w) es vs → ∃ as bs, ReadsAll h (es.map (·.key)) (ks.map (·.1)) as ∧ ReadsAll h (es.map (·.val)) (ks.map (·.2)) bs ∧ sysModules ∉ as ∧ sysModules ∉ bs
  | [], kvs, vs, es, e, r, p => by
    cases (show kvs = [] from e)
    cases r
    cases p
    exact ⟨[], [], .nil, .nil, by simp, by simp⟩
  | (k, d) :: ks, kvs, vs, es, e, r, p => by
    obtain ⟨q, t, rfl, rfl, h1, h2⟩ := e
    cases r with
    | @cons _ b _ l2 r1 r2 =>
      cases p with
      | @cons en _ es' _ pk pv pr =>
        obtain ⟨ek, er⟩ := r1
        obtain ⟨as, q1, z1⟩ := dat_reads ok hs d q.2 en.val h1 (by rw [pv]; exact er)
        obtain ⟨bs, cs, q2, q3, z2, z3⟩ := datK_reads ok hs ks t _ _ h2 r2 pr
        have hk : Reads h en.key (keyD q.1) [] := key_reads (P := P) (w := w) (by rw [ek]; exact pk)
        exact ⟨[] ++ bs, as ++ cs, .cons hk q2, .cons q1 q3, fun m => (List.mem_append.mp m).elim (fun z => nomatch z) z2, fun m => (List.mem_append.mp m).elim z1 z3⟩
end

/-- repr(x), x a datum -/
def rRepr : List V → Hp → VK → Prop := fun xs H Q => ∃ (v : V) (d : PyData), xs = [v] ∧ Dat H d v ∧ d.showable = true ∧ d.depth ≤ 32 ∧ d.shown.length ≤ sizeLine ∧ Q (.str d.shown) H
theorem call_repr {X : Cx} (hg : X.A.guards = some []) (hu : X.A.units + 64 < cLine) (hb : ∃ o, X.base.get? sysModules = some o) : CallR X (.builtin "repr") rRepr := by
  intro pins s σ H xs us Q I r h
  obtain ⟨v, d, rfl, hd, hs, hdp, hz, q⟩ := h
  obtain ⟨u, rfl, ru⟩ := vals1 r
  have h0 : H sysModules = none := by
    obtain ⟨o, ho⟩ := hb
    exact (I.bs _ _ ho).2
  cases d with
  | none =>
    cases (show v = .non from hd)
    cases (show u = Value.none from ru)
    exact PySem.P.repr_of_none ⟨.str _, H, I.tok _, ⟨_, rfl⟩, q⟩
  | bool b =>
    cases (show v = .bl b from hd)
    cases (show u = Value.bool b from ru)
    exact PySem.P.repr_of_bool ⟨.str _, H, I.tok _, ⟨_, rfl⟩, q⟩
  | int i =>
    cases (show v = .int i from hd)
    obtain ⟨t, rfl⟩ := (show ∃ t, u = Value.int i t from ru)
    exact PySem.P.repr_of_int (of_decide_eq_true hs) ⟨.str _, H, I.tok _, ⟨_, rfl⟩, q⟩
  | str x =>
    cases (show v = .str x from hd)
    obtain ⟨t, rfl⟩ := (show ∃ t, u = Value.str x t from ru)
    exact PySem.P.repr_of_str ⟨.str _, H, I.tok _, ⟨_, rfl⟩, q⟩ hz
  | list ds =>
    obtain ⟨as, rd, z⟩ := dat_reads I.hok h0 _ _ _ hd ru
    obtain ⟨a, xs, rfl, _, _⟩ := hd
    cases (show u = Value.ref a from ru)
    exact repr_of_reads' rd hs (fun _ => z) hg (by omega) (fun _ _ e => e) (fun h' t tk hk => ⟨.str _, H, I.kept hk, ⟨_, rfl⟩, q⟩) hz
  | tuple ds =>
    obtain ⟨as, rd, z⟩ := dat_reads I.hok h0 _ _ _ hd ru
    obtain ⟨a, xs, rfl, _, _⟩ := hd
    cases (show u = Value.ref a from ru)
    exact repr_of_reads' rd hs (fun _ => z) hg (by omega) (fun _ _ e => e) (fun h' t tk hk => ⟨.str _, H, I.kept hk, ⟨_, rfl⟩, q⟩) hz
  | dict ks =>
    obtain ⟨as, rd, z⟩ := dat_reads I.hok h0 _ _ _ hd ru
    obtain ⟨a, xs, rfl, _, _⟩ := hd
    cases (show u = Value.ref a from ru)
    exact repr_of_reads' rd hs (fun _ => z) hg (by omega) (fun _ _ e => e) (fun h' t tk hk => ⟨.str _, H, I.kept hk, ⟨_, rfl⟩, q⟩) hz
end KD
end

section
set_option maxHeartbeats 2000000
/-! defs that are called where no repr is under way (guards = some []), and the end of a law row for such a def -/
namespace KD
open PySem PySem.Spec PyProof.Rows L2

/-- a def's promise where no guard stands -/
structure FnG (P : Program) (w : World) (K : PySem.W.Frag) (mg : Str → Option Value) (base : Heap) (CX : CXT) (k : Nat) (f : Addr) (fd : FuncData) (ps : List Str) (sp : Sp) : Prop where
  len : ∀ vs H Q E, sp vs H Q E → vs.length = ps.length
  run : ∀ (A : Around) (outer : List Env) (s : Shared) (H : Hp) (args : Args) (us : List Value) (vs : List V) (Q : VK) (E : XK),
    A.guards = some [] → Room k A → Env0 P w K mg base A outer s H → BindsTo s fd args (ps.zip us) → Vals vs us → sp vs H Q E →
    codeAny (model P w) A (.call (.ref f) args) (CR CX outer P w H s Q E) s
theorem fnG_ok {P : Program} {w : World} {K : PySem.W.Frag} {mg : Str → Option Value} {base : Heap} {CX : CXT} {k : Nat} {f : Addr} {fd : FuncData} {ps : List Str} {sp : Sp} (F : FnOk P w K mg base CX k f fd ps sp) : FnG P w K mg base CX k f fd ps sp :=
  ⟨F.len, fun A outer s H args us vs Q E _ hr e0 hb r h => F.run A outer s H args us vs Q E hr e0 hb r h⟩
section
variable {P : Program} {w : World} {K : PySem.W.Frag} {mg : Str → Option Value} {base : Heap}
theorem fnG_of {CX : CXT} {x qual : Str} {st : Stmt} {f : Addr} {fd : FuncData} {N ps : List Str} {k : Nat} {sp : Sp} (F : Fun K x qual st f fd) (S : FnScope N ps (defScope st))
    (len : ∀ vs H Q E, sp vs H Q E → vs.length = ps.length)
    (hbody : ∀ (cdv : Value) (A : Around) (outer : List Env) (s : Shared) (H : Hp) (vs : List V) (Q : VK) (E : XK),
      A.guards = some [] → Room k (A.deeper (envOfC qual (defScope st) s.heap.objs.size f cdv)) → sp vs H Q E →
      ∃ t, PSs (cxOf CX P w K mg base N qual (defScope st) f cdv A outer s H E) (defBody st) t ∧ t { nx := fun _ H' => Q .non H', rt := Q } (start N vs) H) :
    FnG P w K mg base CX (k + 1) f fd ps sp := by
  obtain ⟨oc, od, kV, doc, pm, an, cdv, ct, osl, rfl, lk, hcd⟩ := F.ex
  refine ⟨len, fun A outer s H args us vs Q E hg hr e0 hb r hsp => ?_⟩
  have keep : ∀ b o, base.get? b = some o → s.heap.get? b = some o := fun b o e => (e0.bs b o e).1
  have inK : K.In s.heap := e0.mod.kin.keeps keep
  have locs : ∀ y ∈ ps.zip us, (defScope st).names.lookup y.1 = some .local ∨ ((defScope st).names.lookup y.1 = some .cell ∧ ((cellsFrom (s.heap.objs.size + 1) (defScope st).names []).lookup y.1).isSome = true) := fun y hy => by
    obtain ⟨n, v⟩ := y
    refine (S.par n (List.of_mem_zip hy).1).imp id fun q => ⟨q, ?_⟩
    exact PySem.W.cellsFrom_some _ _ _ (.inl q)
  refine codeAny_call_function hr.depth (inK _ _ lk) rfl S.co S.gen rfl (PySem.W.codeRec_of inK hcd) (hb _ _ _ _ ?_)
  refine wpAny_newFunctionEnv_cells S.kind locs fun env he s1 made => ?_
  subst he
  refine ⟨(e0.mod.nolimit.keeps keep).keeps made.toInCall.keep, codeAny_func ?_⟩
  obtain ⟨t, ht, hq⟩ := hbody cdv A outer s H vs Q E hg (hr.deeper _) hsp
  have I0 := inv_start (CX := CX) (E := E) S hr.hd e0 (len _ _ _ _ hsp) r made
  refine wpAny_mono (ht.run [] s1 (start N vs) H _ I0 hq) (fun fl s' hs => ?_) fun _ _ z => z
  cases fl with
  | next =>
    obtain ⟨_, H', J, q⟩ := hs
    exact ⟨.non, H', J.os, J.bare, J.base, J.hok, rfl, q⟩
  | ret u =>
    obtain ⟨v, _, H', J, rv, q⟩ := hs
    exact ⟨v, H', J.os, J.bare, J.base, J.hok, rv, q⟩
  | brk =>
    obtain ⟨_, _, _, q⟩ := hs
    exact q.elim
  | cont =>
    obtain ⟨_, _, _, q⟩ := hs
    exact q.elim
end

section
variable {X : Cx} {CX : CXT} {k : Nat} {f : Addr} {fd : FuncData} {ps : List Str} {sp : Sp} {E : XK} {x : Str} {p pos : Pos} {e : Expr} {es : List Expr} {t : TA} {ds : List Value} {dvs : List V}
/-- f(e, ..) where no guard stands -/
theorem pe_callG (F : FnG X.prog X.w X.K X.mg X.base CX k f fd ps sp) (hgd : X.A.guards = some []) (hr : Room k X.A) (hg : Gl X x) (hm : X.mg x = some (.ref f)) (hk : PySem.W.keepIn X.K (.ref f) = true) (hb : Binds X.K fd ps ds) (hd : Vals dvs ds) (hx : Passes CX X E)
    (ha : PA X (e :: es) t) (hdb : (x == ("__debug__" : Str)) = false := by decide) (he : starEach (e :: es) X.env = (false, eval e X.env) :: starEach es X.env := by rfl) (hpl : (backTo pos (starEach es X.env)).any (·.1) = false := by rfl) :
    PE X (.Call (.Name x p) (e :: es) [] pos) (tCall sp dvs E t) := by
  refine ⟨fun pins s σ H Q I h => ?_⟩
  refine wpAny_Call_Name_kw (ld_glob I hg hm ?_ hdb)
  refine PySem.W.callWith_K (h₀ := X.base) I.ok.mod.kin hk (thn (ha.run pos pins s σ H _ I h) fun us s1 hh => ?_) he hpl
  obtain ⟨vs, H1, I1, r, q⟩ := hh
  refine ⟨I1.kIn, ?_⟩
  have r' : Vals (vs ++ dvs) (us ++ ds) := r.append hd
  have hl : (us ++ ds).length = ps.length := by
    rw [← r'.length]
    exact F.len _ _ _ _ q
  refine wpAny_call (codeAny_mono (F.run X.A X.stack s1 H1 ⟨us, []⟩ (us ++ ds) _ Q E hgd hr I1.env0 (hb _ us I1.kIn hl) r' q) fun r s' hq => ?_)
  cases r with
  | error er => exact hx pins σ H1 s1 er s' I1 hq
  | ok fl =>
    cases fl with
    | ret u => exact I1.after hq
    | next => exact False.elim hq
    | brk => exact False.elim hq
    | cont => exact False.elim hq
end

/-- what a law's def finds: the script alone may be tracked, and the table of modules stands in the ground -/
structure BaseOk (base : Heap) : Prop where
  mods : ∃ o, base.get? sysModules = some o

theorem law_callG {P : Program} {w : World} {K : PySem.W.Frag} {mg mb : Str → Option Value} {CX : CXT} {k : Nat} {fa a : Addr} {fd : FuncData} {x : Str} {sp : Sp} {s₁ : Shared} {vs : List Value} {ns : List Int}
    (inK : K.In s₁.heap) (gl : s₁.heap.Ns mainGlobals mg) (bl : s₁.heap.Ns builtinsNs mb) (boot : ∀ x : Str, x ≠ "__name__" → mb x = bootBuiltins x) (lim : s₁.heap.NoLimit) (seer : s₁.heap.NoSeer) (gens : s₁.gens = #[])
    (at_a : s₁.heap.get? a = some { cls := .type "list", data := .seq vs.toArray }) (isI : IntsAre vs ns) (len : ns.length ≤ sizeLine) (room : Room k callerA)
    (F : ∀ base : Heap, K.In base → base.Ns mainGlobals mg → BaseOk base → FnG P w K mg base CX k fa fd [x] sp) (binds : ∀ (s : Shared) (u : Value), BindsTo s fd ⟨[u], []⟩ [(x, u)])
    (hsp : ∀ H : Hp, Only H → SqL K H a (ns.map V.int) → sp [.ref a] H (fun v _ => v = .bl true) fun _ _ _ => False)
    (hCX : ∀ H e s', CX [] H s₁ (fun _ _ _ => False) e s' → False) :
    codeAny (model P w) callerA (.call (.ref fa) ⟨[.ref a], []⟩) (fun r s' => r = .ok (.ret (.bool true)) ∧ OldK s₁.heap s'.heap ∧ s'.os = s₁.os ∧ AllBare s'.gens) s₁ := by
  have rel := vals_ints isI
  obtain ⟨mm, hmods, _⟩ := seer.mods
  -- H tracks the script or nothing
  have main : ∀ H : Hp, Only H → SqL K H a (ns.map V.int) → HOk P w H s₁.heap → (∀ b, H b ≠ none → b = a ∧ K.lookup a = none) →
      codeAny (model P w) callerA (.call (.ref fa) ⟨[.ref a], []⟩) (fun r s' => r = .ok (.ret (.bool true)) ∧ OldK s₁.heap s'.heap ∧ s'.os = s₁.os ∧ AllBare s'.gens) s₁ := by
    intro H only sq ok own
    have untr : ∀ {b : Addr} {o : Obj}, s₁.heap.get? b = some o → (∀ v n, o.data ≠ .seq v n) → H b = none := fun {b o} e d => by
      cases q : H b with
      | none => rfl
      | some z =>
        obtain ⟨rfl, _⟩ := own b (by simp [q])
        rw [at_a] at e
        cases e
        exact absurd rfl (d _ _)
    have nsB : ∀ {b : Addr} {m : Str → Option Value}, s₁.heap.Ns b m → (hidT s₁.heap H).Ns b m := fun {b m} z => by
      obtain ⟨o, es, ep, e, d, r⟩ := z
      exact ⟨o, es, ep, hidT_get e (untr e fun v n y => by rw [d] at y; cases y), d, r⟩
    have kB : K.In (hidT s₁.heap H) := fun b o e => by
      refine hidT_get (inK b o e) ?_
      cases q : H b with
      | none => rfl
      | some z =>
        obtain ⟨rfl, n⟩ := own b (by simp [q])
        rw [n] at e
        cases e
    obtain ⟨mc, l1, l2⟩ := lim
    have md : Mod K mg (hidT s₁.heap H) := ⟨kB, nsB gl, ⟨mb, nsB bl, boot⟩, ⟨mc, nsB l1, l2⟩⟩
    have noFr : ∀ b, b ∉ frs [] := fun b z => nomatch (show b ∈ ([] : List Addr) from z)
    have e0 : Env0 P w K mg (hidT s₁.heap H) callerA [] s₁ H := ⟨rfl, md, fun b o e => of_hidT e, Nat.le_of_eq (hidT_size _ _), trivial, fun b z => absurd z (noFr b), ok, .of_eq gens⟩
    have bo : BaseOk (hidT s₁.heap H) := by
      obtain ⟨o, _, _, e, _⟩ := nsB hmods
      exact ⟨o, e⟩
    refine codeAny_mono ((F _ kB (nsB gl) bo).run callerA [] s₁ H ⟨[.ref a], []⟩ [.ref a] [.ref a] _ _ rfl room e0 (binds s₁ (.ref a)) (.cons rfl .nil) (hsp H only sq)) fun r s' h => ?_
    cases r with
    | error e => exact (hCX H e s' h).elim
    | ok fl =>
      cases fl with
      | next => exact h.elim
      | brk => exact h.elim
      | cont => exact h.elim
      | ret u =>
        obtain ⟨v, H', os, bare, un, ok', rv, ev⟩ := h
        cases (show v = .bl true from ev)
        cases (show u = Value.bool true from rv)
        refine ⟨rfl, OldK.of_keep fun b o e => ?_, os, bare⟩
        cases q : H b with
        | none => exact un.keep b o e q (noFr b) (fun z => nomatch z)
        | some z =>
          rcases only b with y | ⟨ob, xs, y⟩
          · rw [q] at y
            cases y
          · obtain ⟨g1, _⟩ := ok b _ y
            obtain ⟨g2, _⟩ := ok' b _ (un.frzs b ob _ y)
            rw [e] at g1
            cases g1
            exact g2
  cases hk : K.lookup a with
  | some o =>
    have e := inK a o hk
    rw [at_a] at e
    cases e
    exact main (fun _ => none) (fun _ => .inl rfl) (.inr ⟨_, vs.toArray, _, hk, rfl, rfl, rfl, by rw [List.size_toArray, isI.length]; exact len, by simpa using rel⟩) (fun b u z => nomatch (show (none : Option HO) = some u from z)) (fun b z => absurd rfl z)
  | none =>
    have l1 : (ns.map V.int).length ≤ sizeLine := by
      rw [List.length_map]
      exact len
    refine main (fun b => if b = a then some (.frz { cls := .type "list", data := .seq vs.toArray } (.lst (ns.map V.int))) else none) (fun b => ?_) (.inl (.inr ⟨_, if_pos rfl⟩)) (fun b u z => ?_) fun b z => ?_
    · by_cases e : b = a
      · exact .inr ⟨_, _, if_pos e⟩
      · exact .inl (if_neg e)
    · by_cases e : b = a
      · cases (if_pos e).symm.trans z
        subst e
        exact ⟨at_a, l1, vs, _, rel, at_a⟩
      · cases (if_neg e).symm.trans z
    · by_cases e : b = a
      · exact ⟨e, hk⟩
      · exact absurd (if_neg e) z

theorem walk_ofG {l : PySem.W.OpenLaw} {n k : Nat} {q : Program} {loose : List Str} {XP : (Str → Option Value) → Heap → Prop} {YP : World → Heap → Prop} {d : DefRec} {K : Params → PySem.W.Frag} {CX : World → CXT} {sp : World → Sp} {x : Str}
    (most : l.most = some n) (short : n ≤ sizeLine) (plain : d.params.defaults = []) (noImp : importsNone q = true) (room : Room k callerA)
    (hY : ∀ (w : World) (h : Heap), YP w h → (K w.params).In h)
    (F : ∀ (w : World) (mg : Str → Option Value) (fa : Addr) (h : Heap), (K w.params).In h → h.Ns mainGlobals mg → mg d.name = some (.ref fa) →
      ∃ fd : FuncData, (∀ (s : Shared) (u : Value), BindsTo s fd ⟨[u], []⟩ [(x, u)]) ∧
        ∀ base : Heap, (K w.params).In base → base.Ns mainGlobals mg → BaseOk base → FnG l.prog w (K w.params) mg base (CX w) k fa fd [x] (sp w))
    (hsp : ∀ (w : World) (H : Hp) (a : Addr) (ns : List Int), ns.length ≤ n → (∀ z ∈ ns, Builtin.Int.intBits z ≤ 1048576) → Only H → SqL (K w.params) H a (ns.map V.int) → sp w [.ref a] H (fun v _ => v = .bl true) fun _ _ _ => False)
    (hCX : ∀ (w : World) (H : Hp) (s : Shared) (e : Value) (s' : Shared), CX w [] H s (fun _ _ _ => False) e s' → False) :
    PySem.W.WalkO q loose XP YP l.row.toRowW d [] (fun f vs => PySem.call f vs) := by
  refine Att.attach_callB most plain fun w s₀ s₁ mg mb fa o pm cd doc a vs ns G Y ho hd hcd hmg hobj hints hlen hbits hg => ?_
  have inK := hY w _ Y
  obtain ⟨fd, hb, hF⟩ := F w mg fa _ inK G.T.g hmg
  exact law_callG inK G.T.g G.T.b G.T.builtins G.T.nolimit (G.T.seer noImp) hg hobj hints (Nat.le_trans hlen short) room hF hb (fun H hO hS => hsp w H a ns hlen hbits hO hS) fun H e s' => hCX w H s₁ e s'
end KD
end

section
set_option maxHeartbeats 2000000
/-! own exception classes over Exception, with an own __init__: made as a value, their fields stored and read, isinstance, raised -/
namespace KD
open PySem PySem.Spec PyProof.Rows L2

abbrev exTail : List Value := [.type "Exception", .type "BaseException", .type "object"]

/-- what the written part says of the class at C, whose __init__ is the def at fI -/
structure EC (K : PySem.W.Frag) (C fI : Addr) : Prop where
  new : PySem.W.excInitIn K C exTail "Exception.__new__" = true
  over : PySem.W.excOver K C exTail = true
  hd : PySem.W.hasDictIn K C = true
  ini : PySem.W.findIn K (.ref C) "__init__" = some (some (.ref fI))
  fn : PySem.W.typeIn K (.ref fI) = some (.type "function")
  sa : PySem.W.findIn K (.ref C) "__setattr__" = some (some (.builtin "object.__setattr__"))
  ga : PySem.W.findIn K (.ref C) "__getattribute__" = some (some (.builtin "BaseException.__getattribute__"))
  gg : PySem.W.findIn K (.ref C) "__getattr__" = some none
  ex : PySem.W.subIn K (.ref C) (.type "BaseException") = some true
  ob : PySem.W.mroIn K C (.type "object") = some true
  cl : PySem.W.findIn K (.ref C) "__class__" = some (some (.builtin "object.__class__"))
  ty : PySem.W.typeIn K (.ref C) = some (.type "type")
  kp : PySem.W.keepIn K (.ref C) = true
/-- what it says of the built-in descriptor -/
structure CD (K : PySem.W.Frag) : Prop where
  gt : PySem.W.specialIn K (.builtin "object.__class__") "__get__" = some (some (.builtin "getset_descriptor.__get__"))
  tk : PySem.W.takesIn K (.builtin "object.__class__") = some true

/-- an instance, new or with its dict -/
def ev (C : Addr) (a : Addr) (d : Option Addr) : HO := exo a C d

section
open Builtin Builtin.ObjectAttr
variable {prog : Program} {w : World} {A : Around} {R : Result → Shared → Prop} {hp : Heap} {g : Array GenState} {d : Drawn} {t : Nat} {os : OsState} {K : PySem.W.Frag} {C fI x : Addr}
theorem noTaker {name : Str} (h : PySem.W.findIn K (.ref C) name = some none) : PySem.W.takerIn K C name = some none := by
  unfold PySem.W.takerIn
  rw [h]
  rfl
theorem EC.cls (T : EC K C fI) : ∃ cd, PySem.W.clsIn K C = some cd ∧ cd.hasDict = true := by
  obtain ⟨cd, h1, h2⟩ := PySem.W.any_some T.hd
  exact ⟨cd, h1, h2⟩

/-- self.name = v where the instance has no dict yet -/
theorem set_first {name : Str} {tk : Tok} {v : Value} {fv : Array Value} (T : EC K C fI) (inK : K.In hp) (at_x : hp.get? x = some { cls := .ref C, data := .fields fv }) (free : PySem.W.findIn K (.ref C) name = some none)
    (go : ∀ h' tk' dx, (∀ b o, b ≠ x → hp.get? b = some o → h'.get? b = some o) → hp.objs.size ≤ dx → dx ≠ x → h'.get? x = some { cls := .ref C, dict := some dx, data := .fields fv } →
      h'.Ns1 dx (fun y => if y = name then some v else none) → R (.ok (.ret .none)) ⟨h', g, d, tk', os⟩) :
    codeAny (model prog w) A (.call (.builtin "object.__setattr__") ⟨[.ref x, .str name tk, v], []⟩) R ⟨hp, g, d, t, os⟩ := by
  obtain ⟨cd, k1, k2⟩ := T.cls
  have ne : x ≠ hp.objs.size := Nat.ne_of_lt (Heap.lt_size at_x)
  have look : PySem.W.Looks (model prog w) hp (classData C) cd := PySem.W.looks_clsIn inK k1
  refine PySem.W.osa_openX (s := ⟨hp, g, d, t, os⟩) (ox := { cls := .ref C, data := .fields fv }) (od := none) PySem.F.store_Exception inK ⟨at_x, rfl, rfl, trivial⟩ T.over (noTaker free) fun b => ?_
  obtain ⟨nm, bs, mro, ns, qn, hasD, sn, sb, ab, col, del⟩ := cd
  dsimp only at k2
  subst k2
  show wpAny _ _ (storeInOwnDict _ _ _ _ _ _) _ _ _
  unfold storeInOwnDict ownDictForStores
  repeat (first
    | with_reducible refine PySem.HandSPX.store_in_new ?_ ?_
    | with_reducible refine wpAny_loadPart_at at_x ?_
    | with_reducible refine look.at ?_
    | wp_step)
  · exact ⟨_, #[], _,
      (Heap.get?_update_ne _ _ _ _ ne.symm).trans (Heap.get?_push_at rfl rfl),
      rfl, fun e z => absurd z (by simp), fun _ => rfl⟩
  · intro h' tk' hn same
    have x1 : (hp.push { cls := .type "dict", data := .dict #[] }).get? x = some { cls := .ref C, data := .fields fv } := Heap.get?_push_of_some _ at_x
    refine go h' tk' hp.objs.size (fun b o hb ho => ?_) (Nat.le_refl _) ne.symm ?_ hn
    · rw [same.2 b (Nat.ne_of_lt (Heap.lt_size ho)), Heap.get?_update_ne _ _ _ _ hb]
      exact Heap.get?_push_of_some _ ho
    · rw [same.2 x ne]
      exact Heap.get?_update_self _ x1 rfl
/-- self.name = v, a further one -/
theorem set_more {name : Str} {tk : Tok} {v : Value} {fv : Array Value} {dx : Addr} {m0 : Str → Option Value} {nl : List Str} (T : EC K C fI) (inK : K.In hp) (at_x : hp.get? x = some { cls := .ref C, dict := some dx, data := .fields fv })
    (ns : hp.Ns1 dx m0) (wi : Within m0 nl) (few : nl.length ≤ 1000) (free : PySem.W.findIn K (.ref C) name = some none)
    (go : ∀ h' tk', (∀ b o, b ≠ dx → hp.get? b = some o → h'.get? b = some o) → h'.Ns1 dx (fun y => if y = name then some v else m0 y) → R (.ok (.ret .none)) ⟨h', g, d, tk', os⟩) :
    codeAny (model prog w) A (.call (.builtin "object.__setattr__") ⟨[.ref x, .str name tk, v], []⟩) R ⟨hp, g, d, t, os⟩ := by
  obtain ⟨cd, k1, k2⟩ := T.cls
  have look : PySem.W.Looks (model prog w) hp (classData C) cd := PySem.W.looks_clsIn inK k1
  obtain ⟨oD, _, _, at_d, _, _⟩ := ns.count wi
  refine PySem.W.osa_openX (s := ⟨hp, g, d, t, os⟩) (ox := { cls := .ref C, dict := some dx, data := .fields fv }) (od := some oD) PySem.F.store_Exception inK ⟨at_x, rfl, rfl, at_d⟩ T.over (noTaker free) fun b => ?_
  obtain ⟨nm, bs, mro, nsA, qn, hasD, sn, sb, ab, col, del⟩ := cd
  dsimp only at k2
  subst k2
  show wpAny _ _ (storeInOwnDict _ _ _ _ _ _) _ _ _
  unfold storeInOwnDict ownDictForStores
  repeat (first
    | with_reducible refine PySem.OEX.store_in_old ns wi few ?_
    | with_reducible refine wpAny_loadPart_at at_x ?_
    | with_reducible refine look.at ?_
    | wp_step)
  intro h' tk' hn same
  exact go h' tk' (fun b o hb ho => (same.2 b hb).trans ho) hn
end
end KD
end

section
set_option maxHeartbeats 2000000
namespace KD
open PySem PySem.Spec L2
section
variable {M : Model} {prog : Program} {w : World} {A : Around} {E : Value → Shared → Prop} {R : Result → Shared → Prop} {h : Heap} {g : Array GenState} {d : Drawn} {t : Nat} {os : OsState}
variable {nm q : Str} {C N : Addr} {bs bm bmB : List Value} {hdct : Bool} {sn : List Str} {sub : List Value} {ab : Bool} {col : Option Bool} {dd : Option Addr} {k0 k1 k2 k3 k5 : Option Value} {B newId initId : String}

/-- type.__call__'s own check, with keywords -/
theorem check_call_kw {rest : List Value} {kw : List (Str × Value)} {Q : Unit → Shared → Prop}
    (at_C : h.get? C = some (excClassObj nm q C N bs bm hdct sn sub ab col dd k0 k1 k2 k3 k5 newId)) (go : Q () ⟨h, g, d, t, os⟩) :
    wpAny M A (checkBuiltinCall "type.__call__" ⟨.ref C :: rest, kw⟩) Q E ⟨h, g, d, t, os⟩ := by
  have s3 := tc_sub
  have isT : (⟨h, g, d, t, os⟩ : Shared).TypeIs (.ref C) "type" := ⟨_, at_C, rfl⟩
  simp only [checkBuiltinCall, tc_kind, tc_split]
  repeat (any_goals (first
    | assumption
    | with_reducible refine wpAny_loadPart_at at_C ?_
    | with_reducible refine wpAny_onRaise ?_
    | with_reducible refine wpAny_map ?_
    | wp_step))
theorem check_new_kw (F : ExcBaseFacts B newId initId bmB) (same : ∀ X : String, bm.contains (.type X) = bmB.contains (.type X)) {rest : List Value} {kw : List (Str × Value)} {Q : Unit → Shared → Prop}
    (at_C : h.get? C = some (excClassObj nm q C N bs bm hdct sn sub ab col dd k0 k1 k2 k3 k5 newId)) (go : Q () ⟨h, g, d, t, os⟩) :
    wpAny M A (checkBuiltinCall newId ⟨.ref C :: rest, kw⟩) Q E ⟨h, g, d, t, os⟩ := by
  have inB : (Value.ref C :: bm).contains (.type B) = true := by
    rw [List.contains_cons, same, F.hasB, Bool.or_true]
  have star := F.noStar
  simp only [checkBuiltinCall, F.newKind, F.newSplit, F.newRow]
  repeat (first
    | refine wpAny_loadPart_at at_C ?_
    | (refine wpAny_isSubtype_exc at_C ?_; rw [inB])
    | refine wpAny_staticBase_exc at_C ?_
    | refine wpAny_madeBy_exc at_C ?_
    | simp only [bne_self_eq_false, Bool.false_eq_true, if_false]
    | wp_step)
  exact go
theorem new_kw (F : ExcBaseFacts B newId initId bmB) (same : ∀ X : String, bm.contains (.type X) = bmB.contains (.type X)) {rest : List Value} {kw : List (Str × Value)}
    (at_C : h.get? C = some (excClassObj nm q C N bs bm hdct sn sub ab col dd k0 k1 k2 k3 k5 newId)) (few : rest.length ≤ sizeLine)
    (go : R (.ok (.ret (.ref (h.objs.size + 1)))) ⟨(h.push (PySem.W.kdv_tup rest)).push (PySem.HandSPX.excO C h.objs.size), g, d, t, os⟩) :
    codeAny (model prog w) A (.builtin newId ⟨.ref C :: rest, kw⟩) R ⟨h, g, d, t, os⟩ := by
  have ends := F.ends
  have inB : (Value.ref C :: bm).contains (.type B) = true := by
    rw [List.contains_cons, same, F.hasB, Bool.or_true]
  have notA : (Value.ref C :: bm).contains (.type "AttributeError") = false := by
    rw [List.contains_cons, same, F.noAttr]
    rfl
  have notN : (Value.ref C :: bm).contains (.type "NameError") = false := by
    rw [List.contains_cons, same, F.noName]
    rfl
  refine codeAny_builtinAt F.entry ?_
  unfold Builtin.«BaseException.__new__»
  refine wpAt_bind ?_
  show wpAt _ _ _ (stack >>= _) _ _ _
  refine wpAt_bind (wpAt_stack fun p below => wpAt_of_wpAny ?_)
  wp_walk
  refine wpAt_of_wpAny ?_
  rw [F.owner]
  repeat (first
    | with_reducible refine wpAny_madeHere_exc F.canon at_C ?_
    | with_reducible refine wpAny_loadPart_at at_C ?_
    | (with_reducible refine wpAny_isSubtype_exc at_C ?_; first | rw [inB] | rw [notA] | rw [notN])
    | wp_step)
  show R _ _
  rw [Heap.size_push]
  exact go
theorem type_call_kw (F : ExcBaseFacts B newId initId bmB) (same : ∀ X : String, bm.contains (.type X) = bmB.contains (.type X)) {rest : List Value} {kw : List (Str × Value)} {fI : Addr} {Q : Fin → Shared → Prop}
    (at_C : h.get? C = some (excClassObj nm q C N bs bm hdct sn sub ab col dd k0 k1 k2 k3 k5 newId))
    (ini : PySem.W.Looks (model prog w) h (typeLookup (.ref C) "__init__") (some (.ref fI))) (bind : ∀ self, PySem.W.Looks (model prog w) h (bindSpecial (.ref fI) self) (.ref fI, [self])) (few : rest.length ≤ sizeLine)
    (go : codeAny (model prog w) A (.call (.ref fI) ⟨.ref (h.objs.size + 1) :: rest, kw⟩)
      (fun r s' => match r with | .ok (.ret v) => v = .none ∧ Q (.done (.ret (.ref (h.objs.size + 1)))) s' | .ok _ => False | .error e => E e s')
      ⟨(h.push (PySem.W.kdv_tup rest)).push (PySem.HandSPX.excO C h.objs.size), g, d, t, os⟩) :
    wpAny (model prog w) A (Builtin.«type.__call__» ⟨.ref C :: rest, kw⟩) Q E ⟨h, g, d, t, os⟩ := by
  repeat (first
    | with_reducible refine wpAny_loadPart_at at_C ?_
    | with_reducible refine wpAny_madeBy_exc at_C ?_
    | wp_step)
  refine codeAny_call_builtin_code (Code.quiet_builtin _ F.quiet) (check_new_kw F same at_C ?_)
  refine new_kw F same at_C few ?_
  show wpAny _ _ _ _ _ _
  have keep : ∀ b o, h.get? b = some o → ((h.push (PySem.W.kdv_tup rest)).push (PySem.HandSPX.excO C h.objs.size)).get? b = some o := fun b o e =>
    Heap.get?_push_of_some _ (Heap.get?_push_of_some _ e)
  have at_C1 := keep _ _ at_C
  have at_e : ((h.push (PySem.W.kdv_tup rest)).push (PySem.HandSPX.excO C h.objs.size)).get? (h.objs.size + 1) = some (PySem.HandSPX.excO C h.objs.size) := by heap_get
  have inC : (Value.ref C :: bm).contains (.ref C) = true := by simp
  have ini1 := ini.keeps keep
  have bind1 := (bind (.ref (h.objs.size + 1))).keeps keep
  unfold isInstance
  repeat (first
    | with_reducible refine wpAny_loadPart_at at_e ?_
    | (with_reducible refine wpAny_isSubtype_exc at_C1 ?_; rw [inC])
    | wp_step)
  show wpAny _ _ (typeLookup (.ref C) _) _ _ _
  refine ini1.at ?_
  refine wpAny_holding (wpAny_bind (bind1.at ?_))
  refine wpAny_bind (wpAny_call (codeAny_mono go fun r s' z => ?_))
  rcases r with e | (v | _ | _ | _) <;> first | exact z | exact z.elim | skip
  obtain ⟨rfl, y⟩ := z
  first
    | exact wpAny_pure (wpAny_pure y)
    | (wp_walk; exact y)
theorem call_kw (F : ExcBaseFacts B newId initId bmB) (same : ∀ X : String, bm.contains (.type X) = bmB.contains (.type X)) {rest : List Value} {kw : List (Str × Value)} {fI : Addr}
    (at_C : h.get? C = some (excClassObj nm q C N bs bm hdct sn sub ab col dd k0 k1 k2 k3 k5 newId))
    (ini : PySem.W.Looks (model prog w) h (typeLookup (.ref C) "__init__") (some (.ref fI))) (bind : ∀ self, PySem.W.Looks (model prog w) h (bindSpecial (.ref fI) self) (.ref fI, [self])) (few : rest.length ≤ sizeLine)
    (go : codeAny (model prog w) (A.under (.builtin "type.__call__" ⟨.ref C :: rest, kw⟩)) (.call (.ref fI) ⟨.ref (h.objs.size + 1) :: rest, kw⟩) (PySem.W.InitBack (h.objs.size + 1) R)
      ⟨(h.push (PySem.W.kdv_tup rest)).push (PySem.HandSPX.excO C h.objs.size), g, d, t, os⟩) :
    codeAny (model prog w) A (.call (.ref C) ⟨rest, kw⟩) R ⟨h, g, d, t, os⟩ := by
  have l1 := tc_lookup
  have l2 := tc_bind (.ref C)
  have isT : (⟨h, g, d, t, os⟩ : Shared).TypeIs (.ref C) "type" := ⟨_, at_C, rfl⟩
  refine codeAny_of_tree ?_
  show wpAny _ _ (callAny (.ref C) _) _ _ _
  repeat (any_goals (first
    | assumption
    | with_reducible refine wpAny_loadPart_at at_C ?_
    | wp_step))
  refine ⟨rfl, ?_⟩
  refine codeAny_call_builtin_at (Code.quiet_builtin _ (by decide +kernel)) entry_typeCall (check_call_kw at_C (type_call_kw F same at_C ini bind few ?_))
  refine codeAny_mono go fun r s' z => ?_
  rcases r with e | (v | _ | _ | _) <;> exact z
end
end KD
end

section
set_option maxHeartbeats 2000000
namespace KD
open PySem PySem.Spec PyProof.Rows L2

section
variable {X : Cx} {pins : List (Addr × Obj)} {σ : L2.St} {H : Hp} {s : Shared} {a C fI dx : Addr} {f : Str} {y : V} {u : Value} {fs : List (Str × V)} {Q : Unit → Shared → Prop} {E : Value → Shared → Prop} {A : Around}
/-- self.f = y, the first field -/
theorem est_new (T : EC X.K C fI) (I : Inv X pins σ H s) (at_a : H a = some (exo a C none)) (free : PySem.W.findIn X.K (.ref C) f = some none) (ry : RelV y u)
    (go : ∀ dx s', H dx = none → dx ≠ a → Inv X pins σ (upd (upd H dx (exd dx [(f, y)])) a (exo a C (some dx))) s' → Q () s') : wpAny (model X.prog X.w) A (setAttr (.ref a) f u) Q E s := by
  obtain ⟨t1, ho⟩ := exo_at I.hok at_a
  obtain ⟨hp, g, d, t, os⟩ := s
  refine PySem.W.set_plain I.kIn (ox := { cls := .ref C, data := .fields #[.ref t1, .none, .none, .none, .bool false, .none] }) (od := none) ⟨ho, rfl, rfl, trivial⟩ T.sa ?_
  refine set_first T I.kIn ho free fun h' tk' dx kept above ne at_x ns => ?_
  have nd : H dx = none := I.hok.fresh above
  have old : ∀ {b : Addr} {o : Obj}, hp.get? b = some o → b ≠ dx := fun {b o} q => Nat.ne_of_lt (Nat.lt_of_lt_of_le (Heap.lt_size q) above)
  have noA : ∀ {b : Addr}, H b = none → b ≠ a := fun {b} n z => by
    rw [z, at_a] at n
    cases n
  have U : Un X.fs [] H (upd (upd H dx (exd dx [(f, y)])) a (exo a C (some dx))) hp h' := by
    refine ⟨fun b o q n _ _ => kept b o (noA n) q, fun b o q n _ _ => ⟨o.slots, kept b o (noA n) q⟩, fun b o q n _ => ?_, fun b o q _ => ?_, fun b xs q => ?_, fun b o v q => ?_, fun b ps q => ⟨#[], ?_⟩⟩
    · rw [upd_ne (noA n), upd_ne (old q)]
      exact n
    · by_cases e : b = a
      · exact ⟨_, by rw [e]; exact at_x⟩
      · exact ⟨o, kept b o e q⟩
    · rw [upd_ne (at_ne at_a q exo_tup), upd_ne (ne_of_none q nd)]
      exact q
    · rw [upd_ne (at_ne at_a q exo_frz), upd_ne (ne_of_none q nd)]
      exact q
    · rw [upd_ne (at_ne at_a q exo_tbl), upd_ne (ne_of_none q nd), q]
      simp
  refine go dx _ nd ne (I.un (t' := tk') U fun b o q => ?_)
  by_cases e1 : b = a
  · subst e1
    rw [upd_same] at q
    cases q
    exact exo_ok at_x
  rw [upd_ne e1] at q
  by_cases e2 : b = dx
  · subst e2
    rw [upd_same] at q
    cases q
    exact exd_ok ns (relO_put (fs := []) ry fun _ => True.intro)
  rw [upd_ne e2] at q
  refine (I.hok b o q).stay (fun c v hc z => kept c v ?_ z) (fun c hc => ?_) fun c xs hc => ?_
  · rcases hc with hc | hc
    · rw [hc]
      exact e1
    · exact at_ne at_a hc exo_own
  · rw [upd_ne (at_ne at_a hc exo_own), upd_ne (ne_of_none hc nd)]
    exact hc
  · rw [upd_ne (at_ne at_a hc exo_tup), upd_ne (ne_of_none hc nd)]
    exact hc
/-- .., a further one -/
theorem est_more (T : EC X.K C fI) (I : Inv X pins σ H s) (at_a : H a = some (exo a C (some dx))) (at_d : H dx = some (exd dx fs)) (few : fs.length ≤ 900) (free : PySem.W.findIn X.K (.ref C) f = some none) (ry : RelV y u)
    (go : ∀ s', Inv X pins σ (upd H dx (exd dx ((f, y) :: fs))) s' → Q () s') : wpAny (model X.prog X.w) A (setAttr (.ref a) f u) Q E s := by
  obtain ⟨t1, ho⟩ := exo_at I.hok at_a
  obtain ⟨mA, ns, rel⟩ := exd_at I.hok at_d
  have wi := within_of rel
  obtain ⟨hp, g, d, t, os⟩ := s
  obtain ⟨oD, _, _, hoD, _, _⟩ := ns.count wi
  refine PySem.W.set_plain I.kIn (ox := { cls := .ref C, dict := some dx, data := .fields #[.ref t1, .none, .none, .none, .bool false, .none] }) (od := some oD) ⟨ho, rfl, rfl, hoD⟩ T.sa ?_
  refine set_more T I.kIn ho ns wi (by rw [List.length_map]; omega) free fun h' tk' kept ns' => ?_
  obtain ⟨o, es, ep, he, rr⟩ := ns'
  exact go _ (I.write (t' := tk') (x := dx) (e := dx) (by rw [at_d]; trivial) (.inl rfl) kept ⟨o, he⟩ (exd_ok ⟨o, es, ep, he, rr⟩ (relO_put ry rel)))
end

/-! ### an own exception is made -/
section
variable {X : Cx} {pins : List (Addr × Obj)} {σ : L2.St} {H : Hp} {s : Shared} {C fI : Addr} {k : Nat} {fd : FuncData} {ps : List Str} {sp : Sp} {us ws : List Value} {kw : List (Str × Value)} {zs : List V}
theorem run_ev {Q : VK} (T : EC X.K C fI) (F : FnOk X.prog X.w X.K X.mg X.base CX0 k fI fd ps sp) (hr : Room (k + 1) X.A)
    (hb : ∀ (s' : Shared) (self : Value), X.K.In s'.heap → BindsTo s' fd ⟨self :: us, kw⟩ (ps.zip (self :: ws))) (few : us.length ≤ sizeLine) (rz : Vals zs ws) (I : Inv X pins σ H s)
    (go : ∀ a, H a = none → sp (.ref a :: zs) (upd H a (exo a C none)) (fun v H2 => v = .non ∧ Q (.ref a) H2) E0) :
    wpAny (model X.prog X.w) X.A (call (.ref C) us kw) (EP X pins σ Q) X.xe s := by
  obtain ⟨nm, N, qn, bs, bm, hdct, sn, sub, ab, col, dd, k0, k1, k2, k3, k5, at_C, same⟩ := PySem.W.excInit_of I.kIn T.new
  obtain ⟨hp, g, dr, tk, os⟩ := s
  have above : hp.objs.size ≤ hp.objs.size + 1 := Nat.le_succ _
  have q0 := go (hp.objs.size + 1) (I.hok.fresh above)
  have kept : ∀ b o, hp.get? b = some o → ((hp.push (PySem.W.kdv_tup us)).push (PySem.HandSPX.excO C hp.objs.size)).get? b = some o := fun b o e =>
    Heap.get?_push_of_some _ (Heap.get?_push_of_some _ e)
  have at_e : ((hp.push (PySem.W.kdv_tup us)).push (PySem.HandSPX.excO C hp.objs.size)).get? (hp.objs.size + 1) = some (PySem.HandSPX.excO C hp.objs.size) := by heap_get
  have I2 := I.laid (t' := tk) (a := hp.objs.size + 1) (o := exo (hp.objs.size + 1) C none) kept above (exo_ok at_e)
  have rz1 : Vals (V.ref (hp.objs.size + 1) :: zs) (Value.ref (hp.objs.size + 1) :: ws) := .cons rfl rz
  refine wpAny_call (call_kw PySem.F.excBase_Exception same at_C (PySem.W.looks_findIn I.kIn T.ini) (fun self => PySem.W.bind_fn I.kIn self T.fn) few ?_)
  refine codeAny_mono (F.run _ X.stack _ _ ⟨.ref (hp.objs.size + 1) :: us, kw⟩ (.ref (hp.objs.size + 1) :: ws) _ _ E0 (hr.make C us kw) (I2.env0.make C us kw) (hb _ _ I2.kIn) rz1 q0) fun r s' z => ?_
  cases r with
  | error er => exact (show False from z).elim
  | ok fl =>
    cases fl with
    | ret v =>
      obtain ⟨v', H2, I3, rv, ev, q⟩ := I2.after z
      subst ev
      exact ⟨rv, .ref (hp.objs.size + 1), H2, I3, rfl, q⟩
    | next => exact (show False from z).elim
    | brk => exact (show False from z).elim
    | cont => exact (show False from z).elim
/-- .., to be raised -/
theorem run_mk {Q : XK} (T : EC X.K C fI) (F : FnOk X.prog X.w X.K X.mg X.base CX0 k fI fd ps sp) (hr : Room (k + 1) X.A)
    (hb : ∀ (s' : Shared) (self : Value), X.K.In s'.heap → BindsTo s' fd ⟨self :: us, kw⟩ (ps.zip (self :: ws))) (few : us.length ≤ sizeLine) (rz : Vals zs ws) (I : Inv X pins σ H s)
    (go : ∀ a, H a = none → sp (.ref a :: zs) (upd H a (exo a C none)) (fun v H2 => v = .non ∧ ∃ (d : Addr) (fs : List (Str × V)), H2 a = some (exo a C (some d)) ∧ H2 d = some (exd d fs) ∧ H d = none ∧ Q (.ref C) (some d) (upd (del H2 a) d (.xd fs))) E0) :
    wpAny (model X.prog X.w) X.A (call (.ref C) us kw) (MkP X pins σ Q) X.xe s := by
  obtain ⟨nm, N, qn, bs, bm, hdct, sn, sub, ab, col, dd, k0, k1, k2, k3, k5, at_C, same⟩ := PySem.W.excInit_of I.kIn T.new
  obtain ⟨hp, g, dr, tk, os⟩ := s
  have above : hp.objs.size ≤ hp.objs.size + 1 := Nat.le_succ _
  have q0 := go (hp.objs.size + 1) (I.hok.fresh above)
  have kept : ∀ b o, hp.get? b = some o → ((hp.push (PySem.W.kdv_tup us)).push (PySem.HandSPX.excO C hp.objs.size)).get? b = some o := fun b o e =>
    Heap.get?_push_of_some _ (Heap.get?_push_of_some _ e)
  have at_e : ((hp.push (PySem.W.kdv_tup us)).push (PySem.HandSPX.excO C hp.objs.size)).get? (hp.objs.size + 1) = some (PySem.HandSPX.excO C hp.objs.size) := by heap_get
  have I2 := I.laid (t' := tk) (a := hp.objs.size + 1) (o := exo (hp.objs.size + 1) C none) kept above (exo_ok at_e)
  have rz1 : Vals (V.ref (hp.objs.size + 1) :: zs) (Value.ref (hp.objs.size + 1) :: ws) := .cons rfl rz
  refine wpAny_call (call_kw PySem.F.excBase_Exception same at_C (PySem.W.looks_findIn I.kIn T.ini) (fun self => PySem.W.bind_fn I.kIn self T.fn) few ?_)
  refine codeAny_mono (F.run _ X.stack _ _ ⟨.ref (hp.objs.size + 1) :: us, kw⟩ (.ref (hp.objs.size + 1) :: ws) _ _ E0 (hr.make C us kw) (I2.env0.make C us kw) (hb _ _ I2.kIn) rz1 q0) fun r s' z => ?_
  cases r with
  | error er => exact (show False from z).elim
  | ok fl =>
    cases fl with
    | ret v =>
      obtain ⟨v', H2, o2, b2, un2, ok2, rv, ev, d, fs, ea, ed, nd, q⟩ := z
      subst ev
      obtain ⟨h2, g2, d2, t2, os'⟩ := s'
      exact ⟨rv, mk_end (raises_own T.ex T.ty) I above kept un2 ok2 o2 b2 ea ed nd q⟩
    | next => exact (show False from z).elim
    | brk => exact (show False from z).elim
    | cont => exact (show False from z).elim
end
end KD
end

section
set_option maxHeartbeats 2000000
namespace KD
open PySem PySem.Spec PyProof.Rows L2

/-- self.f = e, self an own exception -/
def tEst (K : PySem.W.Frag) (f : Str) (to te : TE) : TS := fun D σ H => te σ H fun y H1 => to σ H1 fun x H2 => ∃ a C fI : Addr, x = .ref a ∧ EC K C fI ∧ PySem.W.findIn K (.ref C) f = some none ∧
  ((H2 a = some (exo a C none) ∧ ∀ dx, H2 dx = none → dx ≠ a → D.nx σ (upd (upd H2 dx (exd dx [(f, y)])) a (exo a C (some dx)))) ∨
    ∃ (dx : Addr) (fs : List (Str × V)), H2 a = some (exo a C (some dx)) ∧ H2 dx = some (exd dx fs) ∧ fs.length ≤ 900 ∧ D.nx σ (upd H2 dx (exd dx ((f, y) :: fs))))
/-- C(e, ..) as a value -/
def tEv (C : Addr) (sp : Sp) (g : List V → List V) (ta : TA) : TE := fun σ H Q => ta σ H fun vs H1 => vs.length ≤ 1000 ∧ ∀ a, H1 a = none → sp (.ref a :: g vs) (upd H1 a (exo a C none)) (fun v H2 => v = .non ∧ Q (.ref a) H2) E0
/-- C(e, ..) to be raised -/
def tEm (C : Addr) (sp : Sp) (g : List V → List V) (ta : TA) : L2.St → Hp → XK → Prop := fun σ H Q => ta σ H fun vs H1 => vs.length ≤ 1000 ∧ ∀ a, H1 a = none → sp (.ref a :: g vs) (upd H1 a (exo a C none))
  (fun v H2 => v = .non ∧ ∃ (d : Addr) (fs : List (Str × V)), H2 a = some (exo a C (some d)) ∧ H2 d = some (exd d fs) ∧ H1 d = none ∧ Q (.ref C) (some d) (upd (del H2 a) d (.xd fs))) E0
/-- e.f of such a value -/
def tEf (K : PySem.W.Frag) (f : Str) (te : TE) : TE := fun σ H Q => te σ H fun x H1 => ∃ (a C fI d : Addr) (fs : List (Str × V)) (v : V), x = .ref a ∧ EC K C fI ∧ PySem.W.findIn K (.ref C) f = some none ∧
  H1 a = some (exo a C (some d)) ∧ H1 d = some (exd d fs) ∧ fs.lookup f = some v ∧ Q v H1
/-- how keywords are bound -/
structure KwB (K : PySem.W.Frag) (fd : FuncData) (ps ks : List Str) (g : {α : Type} → List α → List α) : Prop where
  to : ∀ (s : Shared) (self : Value) (ws : List Value), K.In s.heap → ws.length = ks.length → BindsTo s fd ⟨[self], ks.zip ws⟩ (ps.zip (self :: g ws))
  rel : ∀ {vs : List V} {ws : List Value}, Vals vs ws → Vals (g vs) (g ws)

section
variable {X : Cx} {o e : Expr} {es : List Expr} {kws : List Keyword} {to te : TE} {ta tk : TA} {f x : Str} {p p' pos : Pos} {C fI : Addr} {k : Nat} {fd : FuncData} {ps ks : List Str} {sp : Sp}
theorem ps_est (ho : PE X o to) (he : PE X e te) (hs : swapsWith e (some (.Attribute o f p')) pos.line X.env = pure false := by rfl) : PS X (.Assign [.Attribute o f p'] e pos) (tEst X.K f to te) := by
  refine ⟨fun pins s σ H D I h => ?_⟩
  refine plainObj_wpAny_Assign_Attribute (thn (he.run pins s σ H _ I h) fun v s1 h1 => ?_) hs
  obtain ⟨y, H1, I1, r1, q1⟩ := h1
  refine thn (ho.run pins s1 σ H1 _ I1 q1) fun u s2 h2 => ?_
  obtain ⟨x', H2, I2, r2, a, C, fI, rfl, T, free, q⟩ := h2
  obtain rfl : u = Value.ref a := r2
  rcases q with ⟨ea, q⟩ | ⟨dx, fs, ea, ed, few, q⟩
  · exact est_new T I2 ea free r1 fun dx s' n ne J => ⟨σ, _, J, q dx n ne⟩
  · exact est_more T I2 ea ed few free r1 fun s' J => ⟨σ, _, J, q⟩

theorem le_line {n : Nat} (h : n ≤ 1000) : n ≤ sizeLine := by
  rw [sizeLine_eq]
  omega
theorem pe_ev (T : EC X.K C fI) (F : FnOk X.prog X.w X.K X.mg X.base CX0 k fI fd ps sp) (hr : Room (k + 1) X.A) (hb : Binds X.K fd ps []) (hp : 0 < ps.length) (hg : Gl X x) (hm : X.mg x = some (.ref C)) (ha : PA X (e :: es) ta)
    (hdb : (x == ("__debug__" : Str)) = false := by decide) (he : starEach (e :: es) X.env = (false, eval e X.env) :: starEach es X.env := by rfl) (hpl : (backTo pos (starEach es X.env)).any (·.1) = false := by rfl) :
    PE X (.Call (.Name x p) (e :: es) [] pos) (tEv C sp (fun l => l) ta) := by
  refine ⟨fun pins s σ H Q I h => wpAny_Call_Name_kw (ld_glob I hg hm ?_ hdb)⟩
  refine PySem.W.callWith_K (h₀ := X.base) I.ok.mod.kin T.kp (thn (ha.run pos pins s σ H _ I h) fun us s1 h1 => ?_) he hpl
  obtain ⟨vs, H1, I1, r, few, q⟩ := h1
  have l2 := F.len _ _ _ _ (q s1.heap.objs.size (I1.hok.fresh (Nat.le_refl _)))
  have l3 : us.length + 1 = ps.length := by
    rw [← r.length]
    exact l2
  have few' : us.length ≤ 1000 := by
    rw [← r.length]
    exact few
  refine ⟨I1.kIn, ?_⟩
  show wpAny _ _ (call (.ref C) us) _ _ _
  refine run_ev T F hr (fun s' self inK => ?_) (le_line few') r I1 q
  have z := hb s' (self :: us) inK (by rw [List.append_nil]; exact l3)
  rw [List.append_nil] at z
  exact z
theorem pe_ev0 (T : EC X.K C fI) (F : FnOk X.prog X.w X.K X.mg X.base CX0 k fI fd ps sp) (hr : Room (k + 1) X.A) (hb : Binds X.K fd ps []) (hp : ps.length = 1) (hg : Gl X x) (hm : X.mg x = some (.ref C)) (hdb : (x == ("__debug__" : Str)) = false := by decide) :
    PE X (.Call (.Name x p) [] [] pos) (tEv C sp (fun l => l) tNil) := by
  refine ⟨fun pins s σ H Q I h => wpAny_Call_Name_kw (ld_glob I hg hm ?_ hdb)⟩
  obtain ⟨few, q⟩ := h
  refine PySem.W.callWith_K0 I.kIn T.kp ?_
  refine run_ev (us := []) (ws := []) (zs := []) T F hr (fun s' self inK => ?_) (Nat.zero_le _) .nil I q
  have z := hb s' [self] inK (by rw [List.append_nil]; exact hp.symm)
  rw [List.append_nil] at z
  exact z
theorem pe_evK {g : {α : Type} → List α → List α} (T : EC X.K C fI) (F : FnOk X.prog X.w X.K X.mg X.base CX0 k fI fd ps sp) (hr : Room (k + 1) X.A) (hb : KwB X.K fd ps ks g) (hg : Gl X x) (hm : X.mg x = some (.ref C)) (hkw : PK X kws tk) (hlen : ∀ σ H Q, tk σ H Q → tk σ H fun zs H1 => zs.length = ks.length ∧ Q zs H1)
    (hall : (backToKw pos (keywordEach kws X.env)).all (·.1.isSome) = true := by rfl) (hks : (backToKw pos (keywordEach kws X.env)).filterMap (·.1) = ks := by rfl) (hdb : (x == ("__debug__" : Str)) = false := by decide)
    (hpl : ((backTo pos (starEach [] X.env)).any (·.1) || (backToKw pos (keywordEach kws X.env)).any (·.1.isNone)) = false := by rfl) :
    PE X (.Call (.Name x p) [] kws pos) (tEv C sp (fun l => g l) tk) := by
  refine ⟨fun pins s σ H Q I h => wpAny_Call_Name_kw (ld_glob I hg hm ?_ hdb)⟩
  refine PySem.W.callWith_KW0 (h₀ := X.base) I.ok.mod.kin T.kp hall (thn (hkw.run pos pins s σ H _ I (hlen _ _ _ h)) fun us s1 h1 => ?_) hpl
  obtain ⟨vs, H1, I1, r, len, few, q⟩ := h1
  refine ⟨I1.kIn, ?_⟩
  rw [hks]
  have l : us.length = ks.length := by
    rw [← r.length]
    exact len
  exact run_ev (us := []) (kw := ks.zip us) (ws := g us) T F hr (fun s' self inK => hb.to s' self us inK l) (Nat.zero_le _) (hb.rel r) I1 q
theorem pmk_ev (T : EC X.K C fI) (F : FnOk X.prog X.w X.K X.mg X.base CX0 k fI fd ps sp) (hr : Room (k + 1) X.A) (hb : Binds X.K fd ps []) (hg : Gl X x) (hm : X.mg x = some (.ref C)) (ha : PA X (e :: es) ta)
    (hdb : (x == ("__debug__" : Str)) = false := by decide) (he : starEach (e :: es) X.env = (false, eval e X.env) :: starEach es X.env := by rfl) (hpl : (backTo pos (starEach es X.env)).any (·.1) = false := by rfl) :
    PMk X (.Call (.Name x p) (e :: es) [] pos) (tEm C sp (fun l => l) ta) := by
  intro pins s σ H Q I h
  refine wpAny_Call_Name_kw (ld_glob I hg hm ?_ hdb)
  refine PySem.W.callWith_K (h₀ := X.base) I.ok.mod.kin T.kp (thn (ha.run pos pins s σ H _ I h) fun us s1 h1 => ?_) he hpl
  obtain ⟨vs, H1, I1, r, few, q⟩ := h1
  have l2 := F.len _ _ _ _ (q s1.heap.objs.size (I1.hok.fresh (Nat.le_refl _)))
  have l3 : us.length + 1 = ps.length := by
    rw [← r.length]
    exact l2
  have few' : us.length ≤ 1000 := by
    rw [← r.length]
    exact few
  refine ⟨I1.kIn, ?_⟩
  show wpAny _ _ (call (.ref C) us) _ _ _
  refine run_mk T F hr (fun s' self inK => ?_) (le_line few') r I1 q
  have z := hb s' (self :: us) inK (by rw [List.append_nil]; exact l3)
  rw [List.append_nil] at z
  exact z
theorem pmk_evK {g : {α : Type} → List α → List α} (T : EC X.K C fI) (F : FnOk X.prog X.w X.K X.mg X.base CX0 k fI fd ps sp) (hr : Room (k + 1) X.A) (hb : KwB X.K fd ps ks g) (hg : Gl X x) (hm : X.mg x = some (.ref C)) (hkw : PK X kws tk) (hlen : ∀ σ H Q, tk σ H Q → tk σ H fun zs H1 => zs.length = ks.length ∧ Q zs H1)
    (hall : (backToKw pos (keywordEach kws X.env)).all (·.1.isSome) = true := by rfl) (hks : (backToKw pos (keywordEach kws X.env)).filterMap (·.1) = ks := by rfl) (hdb : (x == ("__debug__" : Str)) = false := by decide)
    (hpl : ((backTo pos (starEach [] X.env)).any (·.1) || (backToKw pos (keywordEach kws X.env)).any (·.1.isNone)) = false := by rfl) :
    PMk X (.Call (.Name x p) [] kws pos) (tEm C sp (fun l => g l) tk) := by
  intro pins s σ H Q I h
  refine wpAny_Call_Name_kw (ld_glob I hg hm ?_ hdb)
  refine PySem.W.callWith_KW0 (h₀ := X.base) I.ok.mod.kin T.kp hall (thn (hkw.run pos pins s σ H _ I (hlen _ _ _ h)) fun us s1 h1 => ?_) hpl
  obtain ⟨vs, H1, I1, r, len, few, q⟩ := h1
  refine ⟨I1.kIn, ?_⟩
  rw [hks]
  have l : us.length = ks.length := by
    rw [← r.length]
    exact len
  exact run_mk (us := []) (kw := ks.zip us) (ws := g us) T F hr (fun s' self inK => hb.to s' self us inK l) (Nat.zero_le _) (hb.rel r) I1 q

/-! ### what is read of one -/
/-- the instance, for the library's rules -/
theorem ev_at {pins : List (Addr × Obj)} {σ : L2.St} {H : Hp} {s : Shared} {a C : Addr} {d : Option Addr} (I : Inv X pins σ H s) (ea : H a = some (exo a C d)) (ed : ∀ dd, d = some dd → ∃ fs, H dd = some (exd dd fs)) :
    ∃ (ox : Obj) (od : Option Obj), PySem.W.InstAt s.heap a ox C od := by
  obtain ⟨t1, ho⟩ := exo_at I.hok ea
  cases d with
  | none => exact ⟨_, none, ho, rfl, rfl, trivial⟩
  | some dd =>
    obtain ⟨fs, e⟩ := ed dd rfl
    obtain ⟨mA, ns, _⟩ := exd_at I.hok e
    obtain ⟨od, hod, _⟩ := lookIn_ns ns
    exact ⟨_, some od, ho, rfl, rfl, hod⟩
theorem pe_ef (he : PE X e te) (hb : attributeBase e f X.env (eval e X.env) = eval e X.env := by rfl) : PE X (.Attribute e f pos) (tEf X.K f te) := by
  refine ⟨fun pins s σ H Q I h => attr_of hb (thn (he.run pins s σ H _ I h) fun u s1 h1 => ?_)⟩
  obtain ⟨x', H1, I1, r1, a, C, fI, d, fs, v, rfl, T, free, ea, ed, l, q⟩ := h1
  obtain rfl : u = Value.ref a := r1
  obtain ⟨t1, ho⟩ := exo_at I1.hok ea
  obtain ⟨mA, ns, rel⟩ := exd_at I1.hok ed
  obtain ⟨od, hod, hl⟩ := lookIn_ns ns
  obtain ⟨u', hu, ru⟩ := RelO.some_of (v := v) (o := mA f) (by rw [← l]; exact rel f)
  have J : PySem.W.InstAt s1.heap a _ C (some od) := ⟨ho, rfl, rfl, hod⟩
  exact PySem.HandSPX.exc_get I1.kIn J T.ga T.gg T.ex (PySem.W.findObj_own T.hd free rfl (by rw [hl, hu])) (handed_of ru) ⟨v, H1, I1.tok _, ru, q⟩
end

/-- isinstance(e, c), e such a value -/
def rIsV (K : PySem.W.Frag) : List V → Hp → VK → Prop := fun xs H Q => ∃ (a C fI : Addr) (d : Option Addr) (c : V) (cv : Value) (b : Bool), xs = [.ref a, c] ∧ EC K C fI ∧ CD K ∧ H a = some (exo a C d) ∧ (∀ dd, d = some dd → ∃ fs, H dd = some (exd dd fs)) ∧
  ClsV c cv ∧ PySem.W.kitOne K (.ref C) cv = some b ∧ Q (.bl b) H
/-- isinstance(e, (c1, c2, ..)) -/
def rIsVT (K : PySem.W.Frag) : List V → Hp → VK → Prop := fun xs H Q => ∃ (a C fI : Addr) (d : Option Addr) (tp : Addr) (cs : List V) (us : List Value) (b : Bool), xs = [.ref a, .ref tp] ∧ EC K C fI ∧ CD K ∧ H a = some (exo a C d) ∧
  (∀ dd, d = some dd → ∃ fs, H dd = some (exd dd fs)) ∧ H tp = some (.tup cs) ∧ Paired ClsV cs us ∧ PySem.W.kitAny K (.ref C) us = some b ∧ Q (.bl b) H
theorem EC.some {K : PySem.W.Frag} {C fI : Addr} (T : EC K C fI) : (PySem.W.clsIn K C).isSome = true := by
  obtain ⟨cd, e, _⟩ := T.cls
  rw [e]
  rfl
section
variable {X : Cx}
theorem call_isV : CallR X (.builtin "isinstance") (rIsV X.K) := by
  intro pins s σ H xs us Q I r h
  obtain ⟨a, C, fI, d, c, cv, b, rfl, T, D, ea, ed, k, e, q⟩ := h
  obtain ⟨u1, u2, rfl, r1, r2⟩ := vals2 r
  cases (show u1 = Value.ref a from r1)
  cases k.eq r2
  obtain ⟨ox, od, J⟩ := ev_at I ea ed
  exact PySem.W.kia_one (PySem.W.kitx_exc T.some T.ga T.gg T.ex T.cl D.gt D.tk T.ob) I.kIn J e (fun z => nomatch z) fun tk => ⟨.bl b, H, I.tok tk, rfl, q⟩
theorem call_isVT : CallR X (.builtin "isinstance") (rIsVT X.K) := by
  intro pins s σ H xs us Q I r h
  obtain ⟨a, C, fI, d, tp, cs, ws, b, rfl, T, D, ea, ed, et, k, e, q⟩ := h
  obtain ⟨u1, u2, rfl, r1, r2⟩ := vals2 r
  cases (show u1 = Value.ref a from r1)
  cases (show u2 = Value.ref tp from r2)
  obtain ⟨ox, od, J⟩ := ev_at I ea ed
  obtain ⟨_, its, rv, o, h1, h2, n, h3⟩ := (show ObjOk X.prog X.w H s.heap tp (.tup cs) from I.hok tp _ et)
  cases ClsV.all k rv
  obtain ⟨oc, odd, dt, sl⟩ := o
  dsimp only at h2 h3
  subst h2 h3
  exact PySem.W.kia_tup (PySem.W.kitx_exc T.some T.ga T.gg T.ex T.cl D.gt D.tk T.ob) I.kIn J h1 e (fun z => nomatch z) fun tk => ⟨.bl b, H, I.tok tk, rfl, q⟩
/-- isinstance(e, c), e the exception that the suite holds, its dict tracked -/
def rIsX (K : PySem.W.Frag) (C a dd : Addr) : List V → Hp → VK → Prop := fun xs H Q => ∃ (c : V) (cv : Value) (b : Bool) (fs : List (Str × V)), xs = [.ref a, c] ∧ H dd = some (.xd fs) ∧ ClsV c cv ∧ PySem.W.kitOne K (.ref C) cv = some b ∧ Q (.bl b) H
theorem call_isX {a C fI dd : Addr} {oe : Obj} {pn : List (Addr × Obj)} (T : EC X.K C fI) (D : CD X.K) (hz : Zc (.ref C) (some dd) oe) (hf : ∃ vs, oe.data = .fields vs) : CallR (X.suite a ((a, oe) :: pn)) (.builtin "isinstance") (rIsX X.K C a dd) := by
  intro pins s σ H xs us Q I r h
  obtain ⟨c, cv, b, fs, rfl, ed, k, e, q⟩ := h
  obtain ⟨u1, u2, rfl, r1, r2⟩ := vals2 r
  cases (show u1 = Value.ref a from r1)
  cases k.eq r2
  obtain ⟨at_a, _⟩ := I.pin (a, oe) (List.mem_append_left _ List.mem_cons_self)
  obtain ⟨vs, hd⟩ := hf
  obtain ⟨mA, ns, _⟩ := (show ObjOk X.prog X.w H s.heap dd (.xd fs) from I.hok dd _ ed)
  obtain ⟨od, hod, _⟩ := lookIn_ns ns
  have J : PySem.W.InstAt s.heap a oe C (some od) := ⟨at_a, hz.1, by unfold PySem.W.notCls; rw [hd], by rw [hz.2]; exact hod⟩
  exact PySem.W.kia_one (PySem.W.kitx_exc T.some T.ga T.gg T.ex T.cl D.gt D.tk T.ob) I.kIn J e (fun z => nomatch z) fun tk => ⟨.bl b, H, I.tok tk, rfl, q⟩
end
end KD
end

section
set_option maxHeartbeats 4000000
/-! own exceptions whose __init__ keeps its parameters: what a call leaves -/
namespace KD
open PySem PySem.Spec PyProof.Rows L2

/-- the def that the written part has at f -/
def fdOf (K : PySem.W.Frag) (f : Addr) : FuncData := match K.lookup f with
  | some ⟨_, _, .func fd, _⟩ => fd
  | _ => PySem.W.fnOf "" "" { posonlyargs := [], args := [], vararg := none, kwonlyargs := [], kw_defaults := [], kwarg := none, defaults := [] } [] { kind := .function, names := [], isGenerator := false, isCoroutine := false } .none .none .none .none none .none .none
theorem fdOf_eq {K : PySem.W.Frag} {f : Addr} {oc : Value} {od : Option Addr} {fd : FuncData} {sl : Array (Option Value)} (h : K.lookup f = some ⟨oc, od, .func fd, sl⟩) : fdOf K f = fd := by
  unfold fdOf
  rw [h]

/-- an exception of the class C with the fields fs stands at a -/
def Obj1 (H : Hp) (a C : Addr) (fs : List (Str × V)) : Prop := ∃ d : Addr, H a = some (exo a C (some d)) ∧ H d = some (exd d fs)
theorem Obj1.same {H H' : Hp} {a C : Addr} {fs : List (Str × V)} (o : Obj1 H a C fs) (s : Same H H') : Obj1 H' a C fs := by
  obtain ⟨d, e1, e2⟩ := o
  exact ⟨d, s _ _ e1, s _ _ e2⟩

theorem pe_imp {X : Cx} {e : Expr} {t t' : TE} (h : PE X e t) (i : ∀ σ H Q, t' σ H Q → t σ H Q) : PE X e t' := ⟨fun pins s σ H Q I q => h.run pins s σ H Q I (i σ H Q q)⟩
theorem pm_imp {X : Cx} {e : Expr} {t t' : L2.St → Hp → XK → Prop} (h : PMk X e t) (i : ∀ σ H Q, t' σ H Q → t σ H Q) : PMk X e t' := fun pins s σ H Q I q => h pins s σ H Q I (i σ H Q q)

/-- def __init__(self, f): self.f = f -/
def spInit1 (K : PySem.W.Frag) (f : Str) : Sp := fun vs H Q _ => ∃ (a C fI : Addr) (y : V), vs = [.ref a, y] ∧ H a = some (exo a C none) ∧ EC K C fI ∧ PySem.W.findIn K (.ref C) f = some none ∧
  ∀ d H', (∀ b o, b ≠ a → H b = some o → H' b = some o) → H d = none → H' a = some (exo a C (some d)) → H' d = some (exd d [(f, y)]) → Q .non H'
/-- two of them -/
def spInit2 (K : PySem.W.Frag) (f g : Str) : Sp := fun vs H Q _ => ∃ (a C fI : Addr) (y z : V), vs = [.ref a, y, z] ∧ H a = some (exo a C none) ∧ EC K C fI ∧ PySem.W.findIn K (.ref C) f = some none ∧ PySem.W.findIn K (.ref C) g = some none ∧
  ∀ d H', (∀ b o, b ≠ a → H b = some o → H' b = some o) → H d = none → H' a = some (exo a C (some d)) → H' d = some (exd d [(g, z), (f, y)]) → Q .non H'
/-- none -/
def spInit0 : Sp := fun vs H Q _ => ∃ a : Addr, vs = [.ref a] ∧ Q .non H

section
variable {P : Program} {w : World} {K : PySem.W.Frag} {mg : Str → Option Value} {base : Heap}
theorem init1_end {X : Cx} {f : Str} {a C fI : Addr} {y : V} {H : Hp} {D : Ends} {σ : L2.St} (ea : H a = some (exo a C none)) (T : EC X.K C fI) (free : PySem.W.findIn X.K (.ref C) f = some none) (h0 : σ[0]? = some (some (.ref a))) (h1 : σ[1]? = some (some y))
    (q : ∀ d H', (∀ b o, b ≠ a → H b = some o → H' b = some o) → H d = none → H' a = some (exo a C (some d)) → H' d = some (exd d [(f, y)]) → D.nx σ H') : tEst X.K f (tVar 0) (tVar 1) D σ H := by
  refine ⟨y, h1, .ref a, h0, a, C, fI, rfl, T, free, .inl ⟨ea, fun d nd ne => q d _ (fun b o hb e => ?_) nd upd_same ?_⟩⟩
  · rw [upd_ne hb, upd_ne (ne_of_none e nd)]
    exact e
  · rw [upd_ne ne, upd_same]
end

/-! ### what stands of a class in the program -/
structure C1 (P : Program) (w : World) (K : PySem.W.Frag) (mg : Str → Option Value) (base : Heap) (k : Nat) (nm : Str) (C fI : Addr) (f : Str) : Prop where
  ec : EC K C fI
  g : mg nm = some (.ref C)
  ok : FnOk P w K mg base CX0 k fI (fdOf K fI) ["self", f] (spInit1 K f)
  b : Binds K (fdOf K fI) ["self", f] []
  kb : KwB K (fdOf K fI) ["self", f] [f] (fun l => l)
  free : PySem.W.findIn K (.ref C) f = some none
structure C2 (P : Program) (w : World) (K : PySem.W.Frag) (mg : Str → Option Value) (base : Heap) (k : Nat) (nm : Str) (C fI : Addr) (f f2 : Str) : Prop where
  ec : EC K C fI
  g : mg nm = some (.ref C)
  ok : FnOk P w K mg base CX0 k fI (fdOf K fI) ["self", f, f2] (spInit2 K f f2)
  b : Binds K (fdOf K fI) ["self", f, f2] []
  kb : KwB K (fdOf K fI) ["self", f, f2] [f2, f] List.reverse
  free : PySem.W.findIn K (.ref C) f = some none
  free2 : PySem.W.findIn K (.ref C) f2 = some none
structure C0 (P : Program) (w : World) (K : PySem.W.Frag) (mg : Str → Option Value) (base : Heap) (k : Nat) (nm : Str) (C fI : Addr) : Prop where
  ec : EC K C fI
  g : mg nm = some (.ref C)
  ok : FnOk P w K mg base CX0 k fI (fdOf K fI) ["self"] spInit0
  b : Binds K (fdOf K fI) ["self"] []

/-- a new exception -/
def tEvG (cond : L2.St → Prop) (C : Addr) (fs : List (Str × V)) : TE := fun σ H Q => cond σ ∧ ∀ a H', Same H H' → H a = none → Obj1 H' a C fs → Q (.ref a) H'
def tEmG (cond : L2.St → Prop) (C : Addr) (fs : List (Str × V)) : L2.St → Hp → XK → Prop := fun σ H Q => cond σ ∧ ∀ d H', Same H H' → H d = none → H' d = some (.xd fs) → Q (.ref C) (some d) H'
section
variable {X : Cx} {p pos kp kp2 p1 p2 : Pos} {nm f g n1 n2 : Str} {C fI : Addr} {k i j : Nat} {cond : L2.St → Prop} {y z : V}
theorem same_of_keep {H H' : Hp} {a C : Addr} (na : H a = none) (keep : ∀ b o, b ≠ a → upd H a (exo a C none) b = some o → H' b = some o) : Same H H' := fun b o e => keep b o (ne_of_none e na) (by rw [upd_ne (ne_of_none e na)]; exact e)
theorem same_of_end {H H2 : Hp} {a d C : Addr} {fs : List (Str × V)} (na : H a = none) (nd : H d = none) (keep : ∀ b o, b ≠ a → upd H a (exo a C none) b = some o → H2 b = some o) : Same H (upd (del H2 a) d (.xd fs)) := fun b o e => by
  rw [upd_ne (ne_of_none e nd), del_ne (ne_of_none e na)]
  exact same_of_keep na keep b o e
theorem pe_new1 (T : C1 X.prog X.w X.K X.mg X.base k nm C fI f) (hr : Room (k + 1) X.A) (he : PE X (.Name n1 p1) (tVar i)) (hc : ∀ σ, cond σ → σ[i]? = some (some y)) (hg : Gl X nm := by rfl) (hdb : (nm == ("__debug__" : Str)) = false := by decide)
    : PE X (.Call (.Name nm p) [.Name n1 p1] [] pos) (tEvG cond C [(f, y)]) := by
  refine pe_imp (pe_ev (ta := tCons (tVar i) tNil) T.ec T.ok hr T.b (Nat.succ_pos _) hg T.g (pa_cons he pa_nil) hdb rfl rfl) fun σ H Q h => by
    obtain ⟨c, q⟩ := h
    exact ⟨y, hc σ c, (by show 1 ≤ 1000; decide), fun a na => ⟨a, C, fI, y, rfl, upd_same, T.ec, T.free, fun d H' keep nd ea ed => ⟨rfl, q a H' (same_of_keep na keep) na ⟨d, ea, ed⟩⟩⟩⟩
theorem pm_new1 (T : C1 X.prog X.w X.K X.mg X.base k nm C fI f) (hr : Room (k + 1) X.A) (he : PE X (.Name n1 p1) (tVar i)) (hc : ∀ σ, cond σ → σ[i]? = some (some y)) (hg : Gl X nm := by rfl) (hdb : (nm == ("__debug__" : Str)) = false := by decide)
    : PMk X (.Call (.Name nm p) [.Name n1 p1] [] pos) (tEmG cond C [(f, y)]) := by
  refine pm_imp (pmk_ev (ta := tCons (tVar i) tNil) T.ec T.ok hr T.b hg T.g (pa_cons he pa_nil) hdb rfl rfl) fun σ H Q h => by
    obtain ⟨c, q⟩ := h
    refine ⟨y, hc σ c, (by show 1 ≤ 1000; decide), fun a na => ⟨a, C, fI, y, rfl, upd_same, T.ec, T.free, fun d H' keep nd ea ed => ?_⟩⟩
    have nd0 : H d = none := by
      by_cases z : d = a
      · rw [z]
        exact na
      · rw [upd_ne z] at nd
        exact nd
    exact ⟨rfl, d, _, ea, ed, nd0, q d _ (same_of_end na nd0 keep) nd0 upd_same⟩
theorem pe_new1K (T : C1 X.prog X.w X.K X.mg X.base k nm C fI f) (hr : Room (k + 1) X.A) (he : PE X (.Name n1 p1) (tVar i)) (hc : ∀ σ, cond σ → σ[i]? = some (some y)) (hg : Gl X nm := by rfl) (hdb : (nm == ("__debug__" : Str)) = false := by decide) :
    PE X (.Call (.Name nm p) [] [⟨some f, .Name n1 p1, kp⟩] pos) (tEvG cond C [(f, y)]) := by
  refine pe_imp (pe_evK (tk := tCons (tVar i) tNil) T.ec T.ok hr T.kb hg T.g (pk_cons he pk_nil) (fun σ H Q h => by
    obtain ⟨v, h1, h2⟩ := h
    exact ⟨v, h1, rfl, h2⟩) (by rfl) (by rfl) hdb (by rfl)) fun σ H Q h => by
    obtain ⟨c, q⟩ := h
    exact ⟨y, hc σ c, (by show 1 ≤ 1000; decide), fun a na => ⟨a, C, fI, y, rfl, upd_same, T.ec, T.free, fun d H' keep nd ea ed => ⟨rfl, q a H' (same_of_keep na keep) na ⟨d, ea, ed⟩⟩⟩⟩
theorem pm_new1K (T : C1 X.prog X.w X.K X.mg X.base k nm C fI f) (hr : Room (k + 1) X.A) (he : PE X (.Name n1 p1) (tVar i)) (hc : ∀ σ, cond σ → σ[i]? = some (some y)) (hg : Gl X nm := by rfl) (hdb : (nm == ("__debug__" : Str)) = false := by decide) :
    PMk X (.Call (.Name nm p) [] [⟨some f, .Name n1 p1, kp⟩] pos) (tEmG cond C [(f, y)]) := by
  refine pm_imp (pmk_evK (tk := tCons (tVar i) tNil) T.ec T.ok hr T.kb hg T.g (pk_cons he pk_nil) (fun σ H Q h => by
    obtain ⟨v, h1, h2⟩ := h
    exact ⟨v, h1, rfl, h2⟩) (by rfl) (by rfl) hdb (by rfl)) fun σ H Q h => by
    obtain ⟨c, q⟩ := h
    refine ⟨y, hc σ c, (by show 1 ≤ 1000; decide), fun a na => ⟨a, C, fI, y, rfl, upd_same, T.ec, T.free, fun d H' keep nd ea ed => ?_⟩⟩
    have nd0 : H d = none := by
      by_cases z : d = a
      · rw [z]
        exact na
      · rw [upd_ne z] at nd
        exact nd
    exact ⟨rfl, d, _, ea, ed, nd0, q d _ (same_of_end na nd0 keep) nd0 upd_same⟩
theorem pe_new2 (T : C2 X.prog X.w X.K X.mg X.base k nm C fI f g) (hr : Room (k + 1) X.A) (he : PE X (.Name n1 p1) (tVar i)) (he2 : PE X (.Name n2 p2) (tVar j)) (hc : ∀ σ, cond σ → σ[i]? = some (some y) ∧ σ[j]? = some (some z)) (hg : Gl X nm := by rfl) (hdb : (nm == ("__debug__" : Str)) = false := by decide)
    : PE X (.Call (.Name nm p) [.Name n1 p1, .Name n2 p2] [] pos) (tEvG cond C [(g, z), (f, y)]) := by
  refine pe_imp (pe_ev (ta := tCons (tVar i) (tCons (tVar j) tNil)) T.ec T.ok hr T.b (Nat.succ_pos _) hg T.g (pa_cons he (pa_cons he2 pa_nil)) hdb rfl rfl) fun σ H Q h => by
    obtain ⟨c, q⟩ := h
    exact ⟨y, (hc σ c).1, z, (hc σ c).2, (by show 2 ≤ 1000; decide), fun a na => ⟨a, C, fI, y, z, rfl, upd_same, T.ec, T.free, T.free2, fun d H' keep nd ea ed => ⟨rfl, q a H' (same_of_keep na keep) na ⟨d, ea, ed⟩⟩⟩⟩
theorem pm_new2 (T : C2 X.prog X.w X.K X.mg X.base k nm C fI f g) (hr : Room (k + 1) X.A) (he : PE X (.Name n1 p1) (tVar i)) (he2 : PE X (.Name n2 p2) (tVar j)) (hc : ∀ σ, cond σ → σ[i]? = some (some y) ∧ σ[j]? = some (some z)) (hg : Gl X nm := by rfl) (hdb : (nm == ("__debug__" : Str)) = false := by decide)
    : PMk X (.Call (.Name nm p) [.Name n1 p1, .Name n2 p2] [] pos) (tEmG cond C [(g, z), (f, y)]) := by
  refine pm_imp (pmk_ev (ta := tCons (tVar i) (tCons (tVar j) tNil)) T.ec T.ok hr T.b hg T.g (pa_cons he (pa_cons he2 pa_nil)) hdb rfl rfl) fun σ H Q h => by
    obtain ⟨c, q⟩ := h
    refine ⟨y, (hc σ c).1, z, (hc σ c).2, (by show 2 ≤ 1000; decide), fun a na => ⟨a, C, fI, y, z, rfl, upd_same, T.ec, T.free, T.free2, fun d H' keep nd ea ed => ?_⟩⟩
    have nd0 : H d = none := by
      by_cases z : d = a
      · rw [z]
        exact na
      · rw [upd_ne z] at nd
        exact nd
    exact ⟨rfl, d, _, ea, ed, nd0, q d _ (same_of_end na nd0 keep) nd0 upd_same⟩
theorem pe_new2K (T : C2 X.prog X.w X.K X.mg X.base k nm C fI f g) (hr : Room (k + 1) X.A) (he : PE X (.Name n1 p1) (tVar i)) (he2 : PE X (.Name n2 p2) (tVar j)) (hc : ∀ σ, cond σ → σ[i]? = some (some y) ∧ σ[j]? = some (some z)) (hg : Gl X nm := by rfl) (hdb : (nm == ("__debug__" : Str)) = false := by decide) :
    PE X (.Call (.Name nm p) [] [⟨some g, .Name n2 p2, kp2⟩, ⟨some f, .Name n1 p1, kp⟩] pos) (tEvG cond C [(g, z), (f, y)]) := by
  refine pe_imp (pe_evK (tk := tCons (tVar j) (tCons (tVar i) tNil)) T.ec T.ok hr T.kb hg T.g (pk_cons he2 (pk_cons he pk_nil)) (fun σ H Q h => by
    obtain ⟨v, h1, v2, h2, h3⟩ := h
    exact ⟨v, h1, v2, h2, rfl, h3⟩) (by rfl) (by rfl) hdb (by rfl)) fun σ H Q h => by
    obtain ⟨c, q⟩ := h
    exact ⟨z, (hc σ c).2, y, (hc σ c).1, (by show 2 ≤ 1000; decide), fun a na => ⟨a, C, fI, y, z, rfl, upd_same, T.ec, T.free, T.free2, fun d H' keep nd ea ed => ⟨rfl, q a H' (same_of_keep na keep) na ⟨d, ea, ed⟩⟩⟩⟩
/-- one without fields -/
theorem pe_new0 (T : C0 X.prog X.w X.K X.mg X.base k nm C fI) (hr : Room (k + 1) X.A) (hg : Gl X nm := by rfl) (hdb : (nm == ("__debug__" : Str)) = false := by decide) :
    PE X (.Call (.Name nm p) [] [] pos) (fun σ H Q => ∀ a, H a = none → Q (.ref a) (upd H a (exo a C none))) := by
  refine pe_imp (pe_ev0 T.ec T.ok hr T.b rfl hg T.g hdb) fun σ H Q q => ⟨(by show 0 ≤ 1000; decide), fun a na => ⟨a, rfl, rfl, q a na⟩⟩
end

/-! ### many of them, one behind the other -/
def ObjL (H : Hp) : List Addr → List (Addr × List (Str × V)) → Prop
  | [], [] => True
  | a :: as, s :: ss => Obj1 H a s.1 s.2 ∧ ObjL H as ss
  | _, _ => False
theorem ObjL.same {H H' : Hp} (s : Same H H') : ∀ {as : List Addr} {ss : List (Addr × List (Str × V))}, ObjL H as ss → ObjL H' as ss
  | [], [], _ => trivial
  | a :: as, x :: ss, h => ⟨h.1.same s, ObjL.same s h.2⟩
  | [], _ :: _, h => h.elim
  | _ :: _, [], h => h.elim
theorem ObjL.app {H : Hp} : ∀ {as bs : List Addr} {ss ts : List (Addr × List (Str × V))}, ObjL H as ss → ObjL H bs ts → ObjL H (as ++ bs) (ss ++ ts)
  | [], _, [], _, _, h => h
  | a :: as, _, x :: ss, _, h, h2 => ⟨h.1, ObjL.app h.2 h2⟩
  | [], _, _ :: _, _, h, _ => h.elim
  | _ :: _, _, [], _, h, _ => h.elim
theorem ObjL.len {H : Hp} : ∀ {as : List Addr} {ss : List (Addr × List (Str × V))}, ObjL H as ss → as.length = ss.length
  | [], [], _ => rfl
  | a :: as, x :: ss, h => by simp only [List.length_cons, ObjL.len h.2]
  | [], _ :: _, h => h.elim
  | _ :: _, [], h => h.elim
theorem ObjL.get {H : Hp} : ∀ {as : List Addr} {ss : List (Addr × List (Str × V))} {i : Nat} {a : Addr} {s : Addr × List (Str × V)}, ObjL H as ss → as[i]? = some a → ss[i]? = some s → Obj1 H a s.1 s.2
  | a :: as, x :: ss, 0, _, _, h, e1, e2 => by
    cases e1
    cases e2
    exact h.1
  | a :: as, x :: ss, i + 1, _, _, h, e1, e2 => ObjL.get (i := i) h.2 (by simpa using e1) (by simpa using e2)
  | [], [], i, _, _, _, e1, _ => by simp at e1
  | [], _ :: _, _, _, _, h, _, _ => h.elim
  | _ :: _, [], _, _, _, h, _, _ => h.elim
def tEvs (cond : L2.St → Prop) (ss : List (Addr × List (Str × V))) : TA := fun σ H Q => cond σ ∧ ∀ as H', Same H H' → ObjL H' as ss → Q (as.map V.ref) H'
section
variable {X : Cx} {e : Expr} {es : List Expr} {cond : L2.St → Prop} {C : Addr} {fs : List (Str × V)} {ss : List (Addr × List (Str × V))}
theorem pa_imp {t t' : TA} (h : PA X es t) (i : ∀ σ H Q, t' σ H Q → t σ H Q) : PA X es t' := ⟨fun pos pins s σ H Q I q => h.run pos pins s σ H Q I (i σ H Q q)⟩
theorem pa_ev_nil : PA X [] (tEvs cond []) := pa_imp pa_nil fun σ H Q h => h.2 [] H (Same.refl H) trivial
theorem pa_ev_cons (h : PE X e (tEvG cond C fs)) (r : PA X es (tEvs cond ss)) (hs : starEach (e :: es) X.env = (false, eval e X.env) :: starEach es X.env := by rfl) : PA X (e :: es) (tEvs cond ((C, fs) :: ss)) :=
  pa_imp (pa_cons h r hs) fun σ H Q h => ⟨h.1, fun a H1 s1 n1 o1 => ⟨h.1, fun as H2 s2 o2 => h.2 (a :: as) H2 (s1.trans s2) ⟨o1.same s2, o2⟩⟩⟩
end
end KD
end

section
set_option maxHeartbeats 4000000
/-! several except clauses, each with or without a name for the error -/
namespace KD
open PySem PySem.Spec PyProof.Rows L2
abbrev Clause := Value × Option Nat × (Addr → Value → Option Addr → TS)
/-- behind a suite its name is gone -/
def gone (D : Ends) (i : Nat) : Ends := { nx := fun σ H => D.nx (σ.set i none) H, rt := D.rt, bk := fun σ H => D.bk (σ.set i none) H, ct := fun σ H => D.ct (σ.set i none) H }
def suiteW (D : Ends) (o : Option Nat) (t : TS) (a : Addr) (σ : L2.St) (H : Hp) : Prop := match o with
  | some i => t (gone D i) (σ.set i (some (.ref a))) H
  | none => t D σ H
/-- what the clauses wish of the body's error -/
def wCl (K : PySem.W.Frag) (Wout : WX) (D : Ends) : List Clause → WX
  | [] => Wout
  | (c, o, ts) :: r => fun cls d σ H => ∃ b, PySem.W.exmOne K cls c = some b ∧ (b = true → ∀ a, H a = none → suiteW D o (ts a cls d) a σ H) ∧ (b = false → wCl K Wout D r cls d σ H)
inductive Hds (X : Cx) : List ExceptHandler → List Clause → Prop
  | nil : Hds X [] []
  | plain {x : Str} {c : Value} {ts : Addr → Value → Option Addr → TS} {s0 : Stmt} {ss : List Stmt} {np p' : Pos} {hds : List ExceptHandler} {l : List Clause} (nm : Names X x c)
      (su : ∀ (a : Addr) (oe : Obj) (cls : Value) (d : Option Addr) (pn : List (Addr × Obj)), Zc cls d oe → (∃ vs, oe.data = .fields vs) → PSs (X.suite a ((a, oe) :: pn)) (s0 :: ss) (ts a cls d)) (r : Hds X hds l) :
      Hds X (.ExceptHandler (some (.Name x np)) none (s0 :: ss) p' :: hds) ((c, none, ts) :: l)
  | as {x n : Str} {i : Nat} {c : Value} {ts : Addr → Value → Option Addr → TS} {s0 : Stmt} {ss : List Stmt} {np p' : Pos} {hds : List ExceptHandler} {l : List Clause} (nm : Names X x c) (hi : X.N[i]? = some n) (hl : X.env.kindOf n = some .local)
      (su : ∀ (a : Addr) (oe : Obj) (cls : Value) (d : Option Addr) (pn : List (Addr × Obj)), Zc cls d oe → (∃ vs, oe.data = .fields vs) → PSs (X.suite a ((a, oe) :: pn)) (s0 :: ss) (ts a cls d)) (r : Hds X hds l) :
      Hds X (.ExceptHandler (some (.Name x np)) (some n) (s0 :: ss) p' :: hds) ((c, some i, ts) :: l)
section
variable {X : Cx} {body : List Stmt} {h1 : ExceptHandler} {hds : List ExceptHandler} {l : List Clause} {pos : Pos} {tb : WX → TS} {Wout : WX}
theorem ps_try_cl (hs : X.stack = X.env :: X.outer) (hf : X.env.frame = some X.env.locals) (nd : X.N.Nodup) (tk : Takes X Wout)
    (hb : ∀ (W : WX) (pn : List (Addr × Obj)) (xe : Value → Shared → Prop), Takes (X.tr pn xe) W → PassesOwn (model X.prog X.w) X.A X.env xe → PSs (X.tr pn xe) body (tb W))
    (hh : Hds X (h1 :: hds) l) : PS X (.Try body (h1 :: hds) [] [] pos) (fun D σ H => tb (wCl X.K Wout D l) D σ H) := by
  refine ⟨fun pins s σ H D I h => wpAny_Try_except ?_⟩
  have ok := I.ok
  have frames : X.A.frames = some (X.env :: X.outer) := by
    rw [ok.frames, hs]
  let wish : Value → Shared → Prop := fun e s₁ => wpAny (model X.prog X.w) X.A (noteFrame e X.env)
    (fun _ s₂ => wpAny (model X.prog X.w) X.A (setFlight e none)
      (fun _ s₃ => wpAny (model X.prog X.w) X.A (handleBy e X.env (h1 :: hds)) (SP X pins D) X.xe s₃) X.xe s₂) X.xe s₁
  refine wpAny_mono ((hb (wCl X.K Wout D l) (X.pn ++ pins) wish (fun u s' caught => ?_) PassesOwn.looking).run [] s σ H D (I.toTry _) h) (fun f s1 done => ?_) (fun e s1 z => z)
  · obtain ⟨a, B, sI, pins', σ', H', cls, d, rfl, J', nb, up, sky, na, os, ag, w⟩ := caught
    have J : Inv X pins σ' H' sI := J'.ofTry ok
    have sky' : Sky B (X.env :: X.outer) a (Zc cls d) X.env.locals s'.heap := by
      rw [← hs]
      exact sky
    show wpAny (model X.prog X.w) X.A (noteFrame (.ref a) X.env) _ _ _
    refine Sky.land Zc.steady frames hf sky' fun hp3 fly3 up3 => ?_
    have J3 : Inv X pins σ' H' { s' with heap := hp3 } := J.landed nb fly3.1 (up.trans up3) os ag
    obtain ⟨oe3, vs3, at3, z3, f3⟩ := fly3.there
    have off : a ∉ frs (X.env :: X.outer) := fun hm => by
      obtain ⟨_, o', e', hnf⟩ := fly3.2.2.1.mem hm
      rw [at3] at e'
      cases e'
      exact hnf _ f3
    have nL : a ≠ X.env.locals := fun z => off (List.mem_filterMap.mpr ⟨X.env, List.mem_cons_self, by rw [hf, z]⟩)
    have nF : a ∉ X.fs := fun hm => by
      obtain ⟨e, he, q⟩ := List.mem_filterMap.mp hm
      exact off (List.mem_filterMap.mpr ⟨e, List.mem_cons_of_mem _ he, q⟩)
    have S3 := J3.suite at3 f3 na nL nF
    have typ : PySem.W.Looks (model X.prog X.w) hp3 (typeOf (.ref a)) cls := fun A Q E s k q => wpAny_typeOf_ref (k _ _ at3) (by rw [z3.1]; exact q)
    have name : ∀ {x : Str} {c : Value} {np : Pos}, Names X x c → ∀ {Q : Value → Shared → Prop} {E : Value → Shared → Prop}, Q c { s' with heap := hp3 } →
        wpAny (model X.prog X.w) (X.A.mark (some (.ref a))) (eval (.Name x np) X.env) Q E { s' with heap := hp3 } := fun {x c np} nm {Q E} q => by
      obtain ⟨hg, hdb, hm | ⟨hm, hv, hn⟩⟩ := nm
      · exact ld_glob (X := X.suite a ((a, oe3) :: (X.pn ++ pins))) S3 hg hm q hdb
      · exact ld_blt (X := X.suite a ((a, oe3) :: (X.pn ++ pins))) S3 hg hm hv q hn hdb
    have go : ∀ {hs' : List ExceptHandler} {l' : List Clause}, Hds X hs' l' → wCl X.K Wout D l' cls d σ' H' →
        wpAny (model X.prog X.w) X.A (handleBy (.ref a) X.env hs') (SP X pins D) X.xe { s' with heap := hp3 } := by
      intro hs' l' hk
      induction hk with
      | nil =>
        intro w
        refine wpAny_handleBy_nil ?_
        obtain ⟨_, _, _, oe, vs, T, oT, ts', he, hz, hd, h1, hr⟩ := id fly3
        unfold PySem.passOn
        refine wpAny_bind (wpAny_field he hd h1 ?_)
        rw [if_neg (show ¬ ((Value.ref T == Value.none) = true) from by simp)]
        have out : wpAny (model X.prog X.w) X.A (setFlight (.ref a) X.env.frame) (fun _ s4 => wpAny (model X.prog X.w) X.A (throw (.ref a) : Sem Flow) (SP X pins D) X.xe s4) X.xe { s' with heap := hp3 } := by
          rw [hf]
          refine PySem.HandSPX.setFlight_upZ fly3 fun h4 held up4 => wpAny_throw (tk _ _ ?_)
          have sky4 : Sky B X.stack a (Zc cls d) X.env.locals h4 := by
            rw [hs]
            exact .inr (.inr held)
          exact ⟨a, B, sI, pins, σ', H', cls, d, rfl, J, nb, (up.trans up3).trans up4, sky4, na, os, ag, w⟩
        first
          | exact wpAny_bind (wpAny_pure (wpAny_bind out))
          | exact wpAny_bind out
      | @plain x c ts s0 ss np p' hds2 l2 nm su r ih =>
        intro w
        obtain ⟨b, eb, onYes, onNo⟩ := w
        have LM := PySem.W.exm_one (M := model X.prog X.w) J3.kIn typ eb
        refine wpAny_handleBy_cons (codeAny_handlers_test ?_) (by intro q; cases q)
        refine name nm (LM.here ?_)
        cases b with
        | false =>
          show wpAny _ X.A (handleBy (.ref a) X.env hds2) _ _ _
          exact ih (onNo rfl)
        | true =>
          refine codeAny_handlers_suite (PySem.HandSPX.lands_againZ fly3 fun h4 fly4 up4 => ?_)
          have J4 : Inv X pins σ' H' { s' with heap := h4 } := J.landed nb fly4.1 ((up.trans up3).trans up4) os ag
          obtain ⟨oe4, vs4, at4, z4, f4⟩ := fly4.there
          have S4 := J4.suite at4 f4 na nL nF
          refine wpAny_mono ((su a oe4 cls d (X.pn ++ pins) z4 ⟨_, f4⟩).run [] _ _ H' _ S4 (onYes rfl a na)) (fun f s6 fin => ?_) (fun _ _ z => z.elim)
          cases f with
          | next => exact let ⟨σ6, H6, S6, q6⟩ := fin; ⟨_, _, S6.unsuite ok, q6⟩
          | brk => exact let ⟨σ6, H6, S6, q6⟩ := fin; ⟨_, _, S6.unsuite ok, q6⟩
          | cont => exact let ⟨σ6, H6, S6, q6⟩ := fin; ⟨_, _, S6.unsuite ok, q6⟩
          | ret u => exact let ⟨v6, σ6, H6, S6, r6, q6⟩ := fin; ⟨_, _, _, S6.unsuite ok, r6, q6⟩
      | @as x n i c ts s0 ss np p' hds2 l2 nm hi hl su r ih =>
        intro w
        obtain ⟨b, eb, onYes, onNo⟩ := w
        have LM := PySem.W.exm_one (M := model X.prog X.w) J3.kIn typ eb
        refine wpAny_handleBy_cons (codeAny_handlers_test ?_) (by intro q; cases q)
        refine name nm (LM.here ?_)
        cases b with
        | false =>
          show wpAny _ X.A (handleBy (.ref a) X.env hds2) _ _ _
          exact ih (onNo rfl)
        | true =>
          refine codeAny_handlers_suite_as (PySem.HandSPX.lands_againZ fly3 fun h4 fly4 up4 => ?_)
          have J4 : Inv X pins σ' H' { s' with heap := h4 } := J.landed nb fly4.1 ((up.trans up3).trans up4) os ag
          obtain ⟨oe4, vs4, at4, z4, f4⟩ := fly4.there
          have S4 := J4.suite at4 f4 na nL nF
          refine store_ok (X := X.suite a ((a, oe4) :: (X.pn ++ pins))) (v := .ref a) S4 nd hi (.inl hl) rfl (fun s5 S5 => ?_) (.inr hl)
          refine wpAny_mono ((su a oe4 cls d (X.pn ++ pins) z4 ⟨_, f4⟩).run [] s5 _ H' _ S5 (onYes rfl a na)) (fun f s6 fin => ?_) (fun _ _ z => z.elim)
          have forget : ∀ {σ6 : L2.St} {H6 : Hp} {Q : Shared → Prop}, Inv (X.suite a ((a, oe4) :: (X.pn ++ pins))) [] σ6 H6 s6 → (∀ s7, Inv X pins (σ6.set i none) H6 s7 → Q s7) →
              wpAny (model X.prog X.w) X.A (do bindName X.env n .none; unbindBehindTheSuite X.env n p') (fun _ s7 => Q s7) X.xe s6 := fun S6 hq => gone_ok (S6.unsuite ok) nd hi hl hq
          cases f with
          | next => exact let ⟨σ6, H6, S6, q6⟩ := fin; forget S6 fun s7 J7 => ⟨_, _, J7, q6⟩
          | brk => exact let ⟨σ6, H6, S6, q6⟩ := fin; forget S6 fun s7 J7 => ⟨_, _, J7, q6⟩
          | cont => exact let ⟨σ6, H6, S6, q6⟩ := fin; forget S6 fun s7 J7 => ⟨_, _, J7, q6⟩
          | ret u => exact let ⟨v6, σ6, H6, S6, r6, q6⟩ := fin; forget S6 fun s7 J7 => ⟨_, _, _, J7, r6, q6⟩
    exact go hh w
  · cases f with
    | next => exact let ⟨σ', H', J', q⟩ := done; wpAny_execs_nil ⟨σ', H', J'.ofTry ok, q⟩
    | brk => exact let ⟨σ', H', J', q⟩ := done; ⟨σ', H', J'.ofTry ok, q⟩
    | cont => exact let ⟨σ', H', J', q⟩ := done; ⟨σ', H', J'.ofTry ok, q⟩
    | ret u => exact let ⟨v, σ', H', J', r, q⟩ := done; ⟨v, σ', H', J'.ofTry ok, r, q⟩
end
end KD
end

section
set_option maxHeartbeats 4000000
/-! sizes of data -/
namespace KD
open PySem PySem.Spec PyProof.Rows L2

/-- small data -/
structure Sm (dp B : Nat) (x : PyData) : Prop where
  sh : x.showable = true
  dp : x.depth ≤ dp
  sz : x.shown.length ≤ B
theorem Sm.mono {dp dp' B B' : Nat} {x : PyData} (h : Sm dp B x) (h1 : dp ≤ dp') (h2 : B ≤ B') : Sm dp' B' x := ⟨h.sh, Nat.le_trans h.dp h1, Nat.le_trans h.sz h2⟩
theorem sm_int {i : Int} {k dp : Nat} (hk : 0 < k) (h : i.natAbs < 10 ^ k) (h2 : i.natAbs.log2 < 1920) : Sm dp (k + 1) (.int i) := by
  refine ⟨decide_eq_true h2, Nat.zero_le _, ?_⟩
  show (Str.ofString (toString i)).length ≤ _
  rw [PySem.ofString_length]
  exact int_text_length_le10 hk h
theorem sm_str {x : Str} {dp : Nat} (h : ∀ c ∈ x.cps.toList, c < 16 ^ 8) : Sm dp (10 * x.length + 2) (.str x) := ⟨rfl, Nat.zero_le _, StrLaws.reprText_len x h⟩
theorem sm_none {dp : Nat} : Sm dp 5 .none := ⟨rfl, Nat.zero_le _, by show (Str.ofString "None").length ≤ 5; decide⟩
theorem sm_bool {b : Bool} {dp : Nat} : Sm dp 5 (.bool b) := ⟨rfl, Nat.zero_le _, by cases b <;> decide⟩

theorem all_sh : ∀ {dp B : Nat} {xs : List PyData}, (∀ x ∈ xs, Sm dp B x) → PyData.showableAll xs = true ∧ PyData.depthAll xs ≤ dp ∧ ((PyData.shownAll xs).map (·.length)).sum ≤ B * xs.length ∧ (PyData.shownAll xs).length = xs.length
  | dp, B, [], _ => ⟨rfl, Nat.zero_le _, Nat.zero_le _, rfl⟩
  | dp, B, x :: xs, h => by
    obtain ⟨h1, h2, h3, h4⟩ := all_sh (dp := dp) (B := B) (xs := xs) fun y hy => h y (List.mem_cons_of_mem _ hy)
    have q := h x List.mem_cons_self
    have q1 := q.dp
    have q2 := q.sz
    refine ⟨?_, ?_, ?_, ?_⟩
    · simp only [PyData.showableAll, q.sh, h1, Bool.and_self]
    · simp only [PyData.depthAll]
      omega
    · simp only [PyData.shownAll, List.map_cons, List.sum_cons, List.length_cons, Nat.mul_succ]
      omega
    · simp only [PyData.shownAll, List.length_cons, h4]
theorem sm_list {dp B : Nat} {xs : List PyData} (h : ∀ x ∈ xs, Sm dp B x) : Sm (dp + 1) (B * xs.length + 2 * xs.length + 3) (.list xs) := by
  obtain ⟨h1, h2, h3, h4⟩ := all_sh h
  have h5 := listText_len_le (PyData.shownAll xs)
  refine ⟨h1, ?_, ?_⟩
  · simp only [PyData.depth]
    omega
  · simp only [PyData.shown]
    rw [h4] at h5
    omega
theorem sm_tuple {dp B : Nat} {xs : List PyData} (h : ∀ x ∈ xs, Sm dp B x) : Sm (dp + 1) (B * xs.length + 2 * xs.length + 3) (.tuple xs) := by
  obtain ⟨h1, h2, h3, h4⟩ := all_sh h
  have h5 := tupleText_len_le (PyData.shownAll xs)
  refine ⟨h1, ?_, ?_⟩
  · simp only [PyData.depth]
    omega
  · simp only [PyData.shown]
    rw [h4] at h5
    omega
/-- {'n': x, 1: i} -/
theorem sm_dict {dp B : Nat} {x : PyData} {i : Int} (h : Sm dp B x) (hi : i.natAbs < 10) : Sm (dp + 1) (B + 100) (.dict [(.str "n", x), (.int 1, .int i)]) := by
  have a1 : Sm 0 12 (.str "n") := sm_str (x := "n") (by decide)
  have a2 : Sm 0 2 (.int 1) := sm_int (k := 1) (by decide) (by decide) (by decide)
  have l4 : i.natAbs.log2 < 1920 := by
    rcases Nat.eq_zero_or_pos i.natAbs with e | e
    · rw [e]
      decide
    · have := (Nat.log2_lt (n := i.natAbs) (k := 4) (by omega)).mpr (by omega)
      omega
  have a3 : Sm 0 2 (.int i) := sm_int (k := 1) (by decide) (by simpa using hi) l4
  have b0 := h.dp
  have b1 := a1.sz
  have b2 := a2.sz
  have b3 := a3.sz
  have b4 := h.sz
  have h5 := dictText_len_le (PyData.shownKv [(.str "n", x), (.int 1, .int i)])
  refine ⟨?_, ?_, ?_⟩
  · simp only [PyData.showable, PyData.showableKv, h.sh, Bool.and_true, Bool.true_and, Bool.and_eq_true, decide_eq_true_eq]
    exact ⟨by decide, l4⟩
  · simp only [PyData.depth, PyData.depthKv]
    omega
  · simp only [PyData.shownKv, List.map_cons, List.map_nil, List.sum_cons, List.sum_nil, List.length_cons, List.length_nil, Str.length_append] at h5
    have c2 : (Str.ofString ": ").length = 2 := by decide
    simp only [PyData.shown, PyData.shownKv] at b1 b2 b3 b4 h5 ⊢
    omega
end KD
end

section
set_option maxHeartbeats 4000000
/-! the deck of a script: made, drawn from, picked from -/
namespace K0
open PySem PySem.Spec PyProof.Rows L2 KD
def topS (i : Nat) : Stmt := PySem.Challenge.pw_manydeep_k00_errors_by_position_and_name.main.body.getD i (.Pass ⟨0, 0, 0, 0⟩)
abbrev sDeck : Stmt := topS 32
abbrev sDraw : Stmt := topS 33
abbrev sPick : Stmt := topS 34
theorem scDeck : FnScope ["_law_script", "_law_mixed", "_law_cell"] ["_law_script"] (defScope sDeck) := ⟨rfl, rfl, rfl, by decide +kernel, rfl, by decide +kernel, by decide +kernel⟩
theorem scDraw : FnScope ["_law_deck_here", "_law_many", "_law_number", "_law_cell"] ["_law_deck_here", "_law_many"] (defScope sDraw) := ⟨rfl, rfl, rfl, by decide +kernel, rfl, by decide +kernel, by decide +kernel⟩
theorem scPick : FnScope ["_law_deck_here", "_law_some"] ["_law_deck_here", "_law_some"] (defScope sPick) := ⟨rfl, rfl, rfl, by decide +kernel, rfl, by decide +kernel, by decide +kernel⟩

/-! ### heaps -/
def deckKvs (C : Addr) (m n : Int) : List (Key × V) := [(.inr "cells", .ref C), (.inr "mixed", .int m), (.inr "draws", .int n)]
/-- a deck stands at D, its cells at C -/
def Deck (H : Hp) (D C : Addr) : Prop := ∃ (ns : List Int) (m n : Int), H D = some (.dK (deckKvs C m n)) ∧ H C = some (.lst (ns.map V.int)) ∧ ns.length ≤ 63
/-- all but the deck is as it was -/
def Oth (D C : Addr) (H H' : Hp) : Prop := ∀ b o, b ≠ D → b ≠ C → H b = some o → H' b = some o
theorem Oth.refl {D C : Addr} {H : Hp} : Oth D C H H := fun _ _ _ _ e => e
theorem Oth.trans {D C : Addr} {H H1 H2 : Hp} (a : Oth D C H H1) (b : Oth D C H1 H2) : Oth D C H H2 := fun c o h1 h2 e => b c o h1 h2 (a c o h1 h2 e)
theorem Oth.new {D C p : Addr} {H : Hp} {o : HO} (n : H p = none) : Oth D C H (upd H p o) := fun b u _ _ e => by
  rw [upd_ne (ne_of_none e n)]
  exact e
theorem Oth.updD {D C : Addr} {H : Hp} {o : HO} : Oth D C H (upd H D o) := fun b u h _ e => by
  rw [upd_ne h]
  exact e
theorem Oth.updC {D C : Addr} {H : Hp} {o : HO} : Oth D C H (upd H C o) := fun b u _ h e => by
  rw [upd_ne h]
  exact e
theorem same_new {H : Hp} {p : Addr} {o : HO} (n : H p = none) : Same H (upd H p o) := fun b u e => by
  rw [upd_ne (ne_of_none e n)]
  exact e
theorem Deck.ne {H : Hp} {D C : Addr} (d : Deck H D C) : D ≠ C := by
  obtain ⟨ns, m, n, e1, e2, _⟩ := d
  exact ne_of e1 e2 (fun z => nomatch z)
theorem Deck.new {H : Hp} {D C p : Addr} {o : HO} (d : Deck H D C) (n : H p = none) : Deck (upd H p o) D C := by
  obtain ⟨ns, m, k, e1, e2, l⟩ := d
  exact ⟨ns, m, k, by rw [upd_ne (ne_of_none e1 n)]; exact e1, by rw [upd_ne (ne_of_none e2 n)]; exact e2, l⟩
theorem Deck.neD {H : Hp} {D C p : Addr} (d : Deck H D C) (n : H p = none) : p ≠ D := by
  obtain ⟨ns, m, k, e1, e2, l⟩ := d
  exact (ne_of_none e1 n).symm
theorem Deck.neC {H : Hp} {D C p : Addr} (d : Deck H D C) (n : H p = none) : p ≠ C := by
  obtain ⟨ns, m, k, e1, e2, l⟩ := d
  exact (ne_of_none e2 n).symm
theorem yes_eq (σ : L2.St) (H : Hp) (Q : Bool → Hp → Prop) : tYes σ H Q = Q true H := rfl
theorem cut_ints (ns : List Int) (lo hi : Option Int) (h : ns.length ≤ 63) : ∃ ks : List Int, cutV (ns.map V.int) lo hi = ks.map V.int ∧ ks.length ≤ 63 := by
  have l := cutV_length (ns.map V.int) lo hi
  unfold cutV at l ⊢
  rw [← List.map_drop, ← List.map_take] at l ⊢
  refine ⟨_, rfl, ?_⟩
  simp only [List.length_map] at l ⊢
  omega

section
variable {P : Program} {w : World} {K : PySem.W.Frag} {mg : Str → Option Value} {base : Heap}
def spDeck (K : PySem.W.Frag) : Sp := fun vs H Q _ => ∃ (a : Addr) (ns : List Int), vs = [.ref a] ∧ SqL K H a (ns.map V.int) ∧ ns.length ≤ 63 ∧
  ∀ H' D C, Same H H' → Deck H' D C → H D = none → H C = none → Q (.ref D) H'
theorem ok_deck {f : Addr} {fd : FuncData} {k : Nat} (F : Fun K "_law_deck" "_law_deck" sDeck f fd) (mi : mg "int" = none) (ml : mg "list" = none) : FnOk P w K mg base CX0 (k + 1) f fd ["_law_script"] (spDeck K) := by
  refine F.ok scDeck (fun vs H Q E h => ?_) (fun cdv A outer s H vs Q E hr h => ?_)
  · obtain ⟨a, ns, rfl, _⟩ := h
    rfl
  · obtain ⟨a, ns, rfl, hS, hl, q⟩ := h
    refine ⟨_, pss_cons (ps_set (i := 1) scDeck.nd rfl (.inl rfl) pe_int)
      (pss_cons (ps_for PassesOwn.never rfl (pi_list (pe_slice sl_list (pv 0) po_none (po_some pe_int))) (pg_name (i := 2) scDeck.nd rfl (.inl rfl))
        (pss_one (ps_set (i := 1) scDeck.nd rfl (.inl rfl) (pe_op op_mod (pe_callTy call_int1 (by rfl) mi PyProof.Rows.boot_int (pa_cons
          (pe_op op_add (pe_op op_add (pe_op op_mul (pv 1) pe_int) (pe_op op_mod (pe_callTy call_int1 (by rfl) mi PyProof.Rows.boot_int (pa_cons (pv 2) pa_nil)) pe_int)) pe_int) pa_nil)) pe_int))))
      (pss_one (ps_ret (pe_disp (pps_cons pe_str (pe_revL (pe_callTy call_list_of (by rfl) ml PyProof.Rows.boot_list (pa_cons (pe_slice sl_list (pv 0) po_none (po_some pe_int)) pa_nil)))
        (pps_cons pe_str (pv 1) (pps_cons pe_str pe_int pps_nil))) (by rfl) (by rfl) (by simp) (by decide))))), ?_⟩
    -- the loop's list
    refine ⟨.ref a, rfl, 63, rfl, a, ns.map V.int, rfl, hS, fun c nc => ?_⟩
    obtain ⟨ks, ek, lk⟩ := cut_ints ns none (some 63) hl
    rw [ek]
    have s1 : Same H (upd H c (.lst (ks.map V.int))) := same_new nc
    refine ⟨c, rfl, ⟨_, .inl (.inl upd_same)⟩, for_list (xs := ks.map V.int) (fun i σ H3 => ∃ (m : Int) (y : Option V), σ = [some (.ref a), some (.int m), y] ∧ H3 = upd H c (.lst (ks.map V.int))) ⟨_, none, rfl, rfl⟩ ?_ ?_ ?_⟩
    · rintro i σ H3 _ ⟨m, y, _, rfl⟩
      exact .inl (.inl upd_same)
    · rintro i x σ H3 hx ⟨m, y, rfl, rfl⟩
      obtain ⟨k0, rfl⟩ : ∃ k0, x = .int k0 := by
        rw [List.getElem?_map] at hx
        cases e : ks[i]? with
        | none => rw [e] at hx; cases hx
        | some z => rw [e] at hx; cases hx; exact ⟨z, rfl⟩
      -- mixed = int(mixed * 69621 + int(cell) % .. + ..) % ..
      refine ⟨.int m, rfl, m, 69621, rfl, rfl, .inr (by decide), ?_⟩
      refine ⟨.int k0, rfl, .inl ⟨k0, rfl, ?_⟩⟩
      refine ⟨k0, 2147483629, rfl, rfl, (by show (0 : Int) < 2147483629; decide), ?_⟩
      refine ⟨_, _, rfl, rfl, _, _, rfl, rfl, .inl ⟨_, rfl, ?_⟩⟩
      refine ⟨_, 2147483587, rfl, rfl, (by show (0 : Int) < 2147483587; decide), ?_⟩
      exact ⟨_, some (.int k0), rfl, rfl⟩
    · rintro σ H3 ⟨m, y, rfl, rfl⟩
      -- the dict
      have h1 : SqL K (upd H c (.lst (ks.map V.int))) a (ns.map V.int) := s1.seq hS
      intro D nD
      have s2 : Same (upd H c (.lst (ks.map V.int))) (upd (upd H c (.lst (ks.map V.int))) D (.dK [])) := same_new nD
      refine ⟨.ref a, rfl, 63, rfl, a, _, rfl, s2.seq h1, fun c2 nc2 => ?_⟩
      rw [ek]
      refine ⟨c2, ks.map V.int, rfl, .inl (.inl (.inl upd_same)), fun c3 nc3 => ?_⟩
      refine ⟨c3, ks.map V.int, rfl, .inl (.inl upd_same), fun c4 nc4 => ?_⟩
      have s3 := same_new (o := .lst (ks.map V.int)) nc2
      have s4 := same_new (o := .lst (ks.map V.int)) nc3
      have s5 := same_new (o := .lst (ks.map V.int).reverse) nc4
      have all := s2.trans (s3.trans (s4.trans s5))
      have eD := (s3.trans (s4.trans s5)) D _ upd_same
      refine ⟨.int m, rfl, eD, deckKvs c4 m 0, rfl, (by show 3 ≤ 15; decide), ?_⟩
      have n4 : H c4 = none := (s1.trans (s2.trans (s3.trans s4))).free nc4
      have n0 : H D = none := s1.free nD
      have neq : c4 ≠ D := fun z => by
        rw [z, (s3.trans s4) D _ upd_same] at nc4
        cases nc4
      refine q _ D c4 (fun b o e => ?_) ⟨ks.reverse, m, 0, ?_, ?_, by simpa using lk⟩ n0 n4
      · rw [upd_ne (ne_of_none e n0)]
        exact (s1.trans all) b o e
      · rw [upd_same]
        rfl
      · rw [upd_ne neq, upd_same, List.map_reverse]

theorem at_cells {C : Addr} {m n : Int} : valV (deckKvs C m n) (.inr "cells") = some (.ref C) := by rfl
theorem at_mixed {C : Addr} {m n : Int} : valV (deckKvs C m n) (.inr "mixed") = some (.int m) := by rfl
theorem at_draws {C : Addr} {m n : Int} : valV (deckKvs C m n) (.inr "draws") = some (.int n) := by rfl
theorem put_draws {C : Addr} {m n k : Int} : putK (deckKvs C m n) (.inr "draws") (.int k) = deckKvs C m k := by rfl
end
end K0
end

section
set_option maxHeartbeats 4000000
namespace K0
open PySem PySem.Spec PyProof.Rows L2 KD
/-! ### lists of ints, as data -/
theorem ints_dp {K : PySem.W.Frag} {H : Hp} : ∀ ns : List Int, DpAll K H (ns.map V.int) (ns.map PyData.int)
  | [] => .nil
  | n :: r => .cons (.int n) (ints_dp r)
theorem ints_canLay : ∀ ns : List Int, PyData.canLayAll0 (ns.map PyData.int) = true
  | [] => rfl
  | n :: r => by
    simp only [List.map_cons, PyData.canLayAll0, PyData.canLay0, ints_canLay r, Bool.and_self]
theorem ints_depth : ∀ ns : List Int, PyData.depthAll (ns.map PyData.int) = 0
  | [] => rfl
  | n :: r => by
    simp only [List.map_cons, PyData.depthAll, PyData.depth, ints_depth r, Nat.max_self]
theorem ints_shaped (ns : List Int) : SeqAt.shaped (.list (ns.map PyData.int)) = true := by
  unfold SeqAt.shaped
  simp only [PyData.canLay0, PyData.depth, ints_canLay, ints_depth, Bool.and_eq_true, decide_eq_true_eq]
  exact ⟨trivial, by omega⟩
theorem ints_eqv (ns : List Int) : PyData.eqv (.list (ns.map PyData.int)) (.list []) = ns.isEmpty := by
  cases ns <;> simp [PyData.eqv, PyData.eqvAll]

section
variable {P : Program} {w : World} {K : PySem.W.Frag} {mg : Str → Option Value} {base : Heap}
def spDraw (K : PySem.W.Frag) : Sp := fun vs H Q _ => ∃ (D C : Addr) (k : Int), vs = [.ref D, .int k] ∧ 0 < k ∧ k < 1073741824 ∧ Deck H D C ∧
  ∀ (r : Int) H', 0 ≤ r → r < k → Deck H' D C → Oth D C H H' → Q (.int r) H'
theorem ok_draw {f : Addr} {fd : FuncData} {k : Nat} (F : Fun K "_law_draw" "_law_draw" sDraw f fd) (mi : mg "int" = none) (mm : mg "max" = none) : FnOk P w K mg base CX0 (k + 1) f fd ["_law_deck_here", "_law_many"] (spDraw K) := by
  refine F.ok scDraw (fun vs H Q E h => ?_) (fun cdv A outer s H vs Q E hr h => ?_)
  · obtain ⟨D, C, k, rfl, _⟩ := h
    rfl
  · obtain ⟨D, C, k, rfl, k0, k1, dk, q⟩ := h
    have hu := hu_of hr
    have nd := scDraw.nd
    refine ⟨_, pss_cons (ps_dput hu (pv 0) pe_str (pe_op op_add (pe_dget hu (pv 0) pe_str (fun _ _ => rfl)) pe_int) rfl)
      (pss_cons (ps_set (i := 2) nd rfl (.inl rfl) (pe_op op_add (pe_dget hu (pv 0) pe_str (fun _ _ => rfl)) (pe_op op_mul pe_int (pe_dget hu (pv 0) pe_str (fun _ _ => rfl)))))
      (C8.pss_cut (ps_if (pt_cmpR (op_neD hr.units) (pe_dget hu (pv 0) pe_str (fun _ _ => rfl)) (pe_lst pa_nil) (nomark _))
        (pss_cons (ps_set (i := 3) nd rfl (.inl rfl) (pe_bm0 PySem.F.plainAttrs_list PySem.F.slot_list_pop PySem.F.type_list_pop mt_pop (pe_dget hu (pv 0) pe_str (fun _ _ => rfl))))
        (pss_cons (ps_if (pt_cmpR op_ge (pv 3) (pe_op op_pow pe_int pe_int) (nomark _))
          (pss_cons (ps_expr (pe_bm PySem.F.plainAttrs_list PySem.F.slot_list_append PySem.F.type_list_append mt_append (pe_dget hu (pv 0) pe_str (fun _ _ => rfl))
            (pa_cons (pe_op op_fdiv (pv 3) (pe_callB (call_max2 rfl) (by rfl) mm PyProof.Rows.boot_max (pa_cons pe_int (pa_cons (pv 1) pa_nil)))) pa_nil)))
          (pss_one (ps_ret (pe_op op_mod (pe_callTy call_int1 (by rfl) mi PyProof.Rows.boot_int (pa_cons (pv 3) pa_nil)) (pv 1))))) pss_nil)
        (pss_one (ps_set (i := 2) nd rfl (.inl rfl) (pe_op op_add (pv 2) (pe_op op_mod (pe_callTy call_int1 (by rfl) mi PyProof.Rows.boot_int (pa_cons (pv 3) pa_nil)) pe_int)))))) pss_nil)
      (pss_cons (ps_set (i := 2) nd rfl (.inl rfl) (pe_op op_mod (pe_callTy call_int1 (by rfl) mi PyProof.Rows.boot_int (pa_cons (pe_op op_add (pe_op op_mul (pv 2) pe_int) pe_int) pa_nil)) pe_int))
      (pss_cons (ps_set (i := 2) nd rfl (.inl rfl) (pe_op op_mod (pe_callTy call_int1 (by rfl) mi PyProof.Rows.boot_int (pa_cons
        (pe_op op_add (pe_op op_add (pe_op op_mul (pv 2) (pv 2)) (pe_op op_mul pe_int (pe_dget hu (pv 0) pe_str (fun _ _ => rfl)))) pe_int) pa_nil)) pe_int))
      (pss_cons (ps_set (i := 2) nd rfl (.inl rfl) (pe_op op_mod (pe_callTy call_int1 (by rfl) mi PyProof.Rows.boot_int (pa_cons (pe_op op_mul (pv 2) pe_int) pa_nil)) pe_int))
      (pss_one (ps_ret (pe_op op_mod (pe_callTy call_int1 (by rfl) mi PyProof.Rows.boot_int (pa_cons (pe_op op_fdiv (pv 2) pe_int) pa_nil)) (pv 1))))))))), ?_⟩
    obtain ⟨ns, m, n, e1, e2, l63⟩ := dk
    have neDC : C ≠ D := (ne_of e1 e2 (fun z => nomatch z)).symm
    -- draws
    refine ⟨.ref D, rfl, D, _, rfl, DGet.k (k := Sum.inr "draws") e1, n, 1, rfl, rfl, .ref D, rfl, D, _, rfl, DPut.k (k := Sum.inr "draws") e1 (by show 3 < sizeLine; decide), ?_⟩
    rw [put_draws]
    have u1 : upd H D (.dK (deckKvs C m (n + 1))) D = some (.dK (deckKvs C m (n + 1))) := upd_same
    have u2 : upd H D (.dK (deckKvs C m (n + 1))) C = some (.lst (ns.map V.int)) := by
      rw [upd_ne neDC]
      exact e2
    have o1 : Oth D C H (upd H D (.dK (deckKvs C m (n + 1)))) := Oth.updD
    generalize upd H D (.dK (deckKvs C m (n + 1))) = H1 at u1 u2 o1
    -- number
    refine ⟨.ref D, rfl, D, _, rfl, DGet.k (k := Sum.inr "mixed") u1, .ref D, rfl, D, _, rfl, DGet.k (k := Sum.inr "draws") u1, 61473, n + 1, rfl, rfl, .inl (by decide), m, 61473 * (n + 1), rfl, rfl, ?_⟩
    -- the cells
    refine ⟨fun σ H5 => ∃ (x : Int) (y3 : Option V) (ks : List Int), σ = [some (.ref D), some (.int k), some (.int x), y3] ∧ H5 D = some (.dK (deckKvs C m (n + 1))) ∧ H5 C = some (.lst (ks.map V.int)) ∧ ks.length ≤ 63 ∧ Oth D C H H5, ?_, ?_⟩
    · refine ⟨.ref D, rfl, D, _, rfl, DGet.k (k := Sum.inr "cells") u1, Nat.zero_le _, fun p np => ?_⟩
      have v1 : upd H1 p (.lst []) D = some (.dK (deckKvs C m (n + 1))) := by
        rw [upd_ne (ne_of_none u1 np)]
        exact u1
      have v2 : upd H1 p (.lst []) C = some (.lst (ns.map V.int)) := by
        rw [upd_ne (ne_of_none u2 np)]
        exact u2
      have v3 : upd H1 p (.lst []) p = some (.lst []) := upd_same
      have o2 : Oth D C H (upd H1 p (.lst [])) := o1.trans (Oth.new np)
      generalize upd H1 p (.lst []) = H2 at v1 v2 v3 o2
      refine ⟨.list (ns.map PyData.int), .list [], .lst (.inl (.inl v2)) (ints_dp ns), .lst (.inl (.inl v3)) .nil, ints_shaped ns, by rfl, _, rfl, ?_⟩
      rw [ints_eqv]
      cases hn : ns with
      | nil => exact iteF ⟨_, none, [], rfl, v1, by rw [v2, hn], by simp, o2⟩
      | cons z0 r0 =>
        refine iteT ?_
        obtain ⟨ns', z, ez⟩ : ∃ (ns' : List Int) (z : Int), ns = ns' ++ [z] := ⟨ns.dropLast, ns.getLast (by rw [hn]; simp), by rw [List.dropLast_concat_getLast]⟩
        have l62 : ns'.length ≤ 62 := by
          rw [ez, List.length_append, List.length_singleton] at l63
          omega
        -- cell = pop()
        refine ⟨.ref D, rfl, D, _, rfl, DGet.k (k := Sum.inr "cells") v1, .inl ⟨rfl, _, .inl (.inl v2)⟩, C, ns.map V.int, .int z, rfl, rfl, v2, by rw [ez]; simp, ?_⟩
        have w1 : upd H2 C (.lst (ns.map V.int).dropLast) D = some (.dK (deckKvs C m (n + 1))) := by
          rw [upd_ne neDC.symm]
          exact v1
        have w2 : upd H2 C (.lst (ns.map V.int).dropLast) C = some (.lst (ns'.map V.int)) := by
          rw [upd_same, ez, List.map_append, List.map_singleton, List.dropLast_concat]
        have o3 : Oth D C H (upd H2 C (.lst (ns.map V.int).dropLast)) := o2.trans Oth.updC
        generalize upd H2 C (.lst (ns.map V.int).dropLast) = H3 at w1 w2 o3
        -- a great one
        refine ⟨.int z, rfl, 10, 18, rfl, rfl, ⟨by decide, by decide, by decide⟩, z, _, rfl, rfl, _, rfl, ite2 (fun _ => ?_) (fun _ => ?_)⟩
        · refine ⟨.ref D, rfl, D, _, rfl, DGet.k (k := Sum.inr "cells") w1, .inl ⟨rfl, _, .inl (.inl w2)⟩, .int z, rfl, .int k, rfl, 2, k, rfl, z, _, rfl, rfl, ⟨?_, ?_⟩, C, _, _, rfl, rfl, w2, ?_, ?_⟩
          · show (0 : Int) < if k > 2 then k else 2
            split <;> omega
          · show (if k > 2 then k else 2 : Int) < 1073741824
            split <;> omega
          · rw [List.length_map]
            exact Nat.lt_of_le_of_lt l62 (by decide)
          · refine ⟨.int z, rfl, .inl ⟨z, rfl, .int k, rfl, z, k, rfl, rfl, k0, ?_⟩⟩
            refine q _ _ (Int.emod_nonneg _ (by omega)) (Int.emod_lt_of_pos _ k0) ⟨ns' ++ [z / (if k > 2 then k else 2)], m, n + 1, ?_, ?_, ?_⟩ (o3.trans Oth.updC)
            · rw [upd_ne neDC.symm]
              exact w1
            · rw [upd_same, List.map_append]
              rfl
            · rw [List.length_append, List.length_singleton]
              omega
        · refine ⟨.int (m + 61473 * (n + 1)), rfl, .int z, rfl, .inl ⟨z, rfl, z, 2147483629, rfl, rfl, (by show (0 : Int) < 2147483629; decide), _, _, rfl, rfl, ?_⟩⟩
          exact ⟨_, some (.int z), ns', rfl, w1, w2, by omega, o3⟩
    · rintro σ5 H5 ⟨x, y3, ks, rfl, f1, f2, f3, f4⟩
      have b1 : (0 : Int) < 2147483647 := by decide
      have b2 : (0 : Int) < 2147483587 := by decide
      have b3 : (0 : Int) < 2147483563 := by decide
      refine ⟨.int x, rfl, x, 39373, rfl, rfl, .inr (by decide), _, _, rfl, rfl, .inl ⟨_, rfl, _, _, rfl, rfl, b1, ?_⟩⟩
      have y0 := Int.emod_nonneg (x * 39373 + 59) (show (2147483647 : Int) ≠ 0 by decide)
      have y1 := Int.emod_lt_of_pos (x * 39373 + 59) b1
      refine ⟨.int ((x * 39373 + 59) % 2147483647), rfl, .int ((x * 39373 + 59) % 2147483647), rfl, _, _, rfl, rfl, .inl ⟨by omega, by omega⟩, .ref D, rfl, D, _, rfl, DGet.k (k := Sum.inr "draws") f1, 52713, n + 1, rfl, rfl, .inl (by decide), _, _, rfl, rfl, _, _, rfl, rfl, .inl ⟨_, rfl, _, _, rfl, rfl, b2, ?_⟩⟩
      refine ⟨_, rfl, _, 40692, rfl, rfl, .inr (by decide), .inl ⟨_, rfl, _, _, rfl, rfl, b3, ?_⟩⟩
      refine ⟨_, rfl, _, 64, rfl, rfl, ⟨by decide, by decide⟩, .inl ⟨_, rfl, .int k, rfl, _, k, rfl, rfl, k0, ?_⟩⟩
      exact q _ _ (Int.emod_nonneg _ (by omega)) (Int.emod_lt_of_pos _ k0) ⟨ks, m, n + 1, f1, f2, f3⟩ f4
end
end K0
end

section
set_option maxHeartbeats 4000000
namespace K0
open PySem PySem.Spec PyProof.Rows L2 KD
section
variable {P : Program} {w : World} {K : PySem.W.Frag} {mg : Str → Option Value} {base : Heap}
/-- what is asked of a def that is called by its name -/
structure Cal (K : PySem.W.Frag) (mg : Str → Option Value) (x : Str) (f : Addr) (fd : FuncData) (ps : List Str) : Prop where
  g : mg x = some (.ref f)
  kp : PySem.W.keepIn K (.ref f) = true
  b : Binds K fd ps []

def spPick (K : PySem.W.Frag) : Sp := fun vs H Q _ => ∃ (D C L : Addr) (xs : List V), vs = [.ref D, .ref L] ∧ H L = some (.lst xs) ∧ L ≠ D ∧ L ≠ C ∧ 0 < xs.length ∧ xs.length ≤ 1000 ∧ Deck H D C ∧
  ∀ (x : V) H', x ∈ xs → Deck H' D C → Oth D C H H' → Q x H'
theorem ok_pick {f fD : Addr} {fd fdD : FuncData} {k : Nat} (F : Fun K "_law_pick" "_law_pick" sPick f fd) (GD : FnOk P w K mg base CX0 k fD fdD ["_law_deck_here", "_law_many"] (spDraw K)) (cD : Cal K mg "_law_draw" fD fdD ["_law_deck_here", "_law_many"])
    (ml : mg "len" = none) : FnOk P w K mg base CX0 (k + 1) f fd ["_law_deck_here", "_law_some"] (spPick K) := by
  refine F.ok scPick (fun vs H Q E h => ?_) (fun cdv A outer s H vs Q E hr h => ?_)
  · obtain ⟨D, C, L, xs, rfl, _⟩ := h
    rfl
  · obtain ⟨D, C, L, xs, rfl, eL, n1, n2, l0, l1, dk, q⟩ := h
    refine ⟨_, pss_one (ps_ret (pe_ix ix_list (pv 1) (pe_call GD hr (by rfl) cD.g cD.kp cD.b .nil pass0 (pa_cons (pv 0) (pa_cons (pe_callB call_len_seq (by rfl) ml PySem.boot_len (pa_cons (pv 1) pa_nil)) pa_nil))) (fun _ _ => rfl))), ?_⟩
    refine ⟨.ref L, rfl, .ref D, rfl, .ref L, rfl, L, xs, rfl, .inl (.inl (.inl eL)), ?_⟩
    refine ⟨D, C, _, rfl, by omega, by omega, dk, fun r H' r0 r1 dk' o => ?_⟩
    obtain ⟨j, rfl⟩ := Int.eq_ofNat_of_zero_le r0
    have hj : j < xs.length := by omega
    exact ⟨L, xs, j, xs[j], rfl, rfl, .inl (.inl (o L _ n1 n2 eL)), atI_nat (List.getElem?_eq_getElem hj), q _ _ (List.getElem_mem hj) dk' o⟩
end

/-! ### data that is new since H -/
def nw (H H' : Hp) : Hp := fun b => if H b = none then H' b else none
theorem nw_at {H H' : Hp} {b : Addr} (h : H b = none) : nw H H' b = H' b := if_pos h
theorem of_nw {H H' : Hp} {b : Addr} {o : HO} (h : nw H H' b = some o) : H b = none ∧ H' b = some o := by
  unfold nw at h
  by_cases e : H b = none
  · rw [if_pos e] at h
    exact ⟨e, h⟩
  · rw [if_neg e] at h
    cases h
theorem nw_mono {H H1 H2 : Hp} (s : ∀ b o, H b = none → H1 b = some o → H2 b = some o) : ∀ b o, nw H H1 b = some o → nw H H2 b = some o := fun b o e => by
  obtain ⟨n, e1⟩ := of_nw e
  rw [nw_at n]
  exact s b o n e1
theorem Oth.nw {D C : Addr} {H H1 H2 : Hp} (dk : Deck H D C) (o : Oth D C H1 H2) : ∀ b u, nw H H1 b = some u → nw H H2 b = some u := nw_mono fun b u n e => by
  obtain ⟨ns, m, n', e1, e2, _⟩ := dk
  exact o b u (fun z => by rw [z, e1] at n; cases n) (fun z => by rw [z, e2] at n; cases n) e

abbrev sAny : Stmt := topS 35
abbrev nAny : List Str := ["_law_deck_here", "_law_deep", "_law_way", "_law_some", "_law_turn"]
theorem scAny : FnScope nAny ["_law_deck_here", "_law_deep"] (defScope sAny) := ⟨rfl, rfl, rfl, by decide +kernel, rfl, by decide +kernel, by decide +kernel⟩

/-- what a written item stands for -/
def scal : V → PyData
  | .bl b => .bool b
  | .int i => .int i
  | .str x => .str x
  | _ => .none
def isScal : V → Bool
  | .bl _ => true
  | .int i => decide (i.natAbs < 10 ^ 100) && decide (i.natAbs.log2 < 1920)
  | .str x => decide (x.length ≤ 10) && x.cps.toList.all fun c => decide (c < 16 ^ 8)
  | .non => true
  | _ => false
theorem scal_ok {x : V} {H : Hp} {dp B : Nat} (h : isScal x = true) (hB : 150 ≤ B) : Dat H (scal x) x ∧ Sm dp B (scal x) := by
  cases x with
  | non => exact ⟨rfl, sm_none.mono (Nat.le_refl _) (by omega)⟩
  | bl b => exact ⟨rfl, sm_bool.mono (Nat.le_refl _) (by omega)⟩
  | int i =>
    simp only [isScal, Bool.and_eq_true, decide_eq_true_eq] at h
    exact ⟨rfl, (sm_int (k := 100) (by decide) h.1 h.2).mono (Nat.le_refl _) (by omega)⟩
  | str x =>
    simp only [isScal, Bool.and_eq_true, decide_eq_true_eq, List.all_eq_true] at h
    exact ⟨rfl, (sm_str h.2).mono (Nat.le_refl _) (by omega)⟩
  | byt b => cases h
  | flt b => cases h
  | ref a => cases h
  | ty n => cases h

theorem datL_snoc {G : Hp} {x : PyData} {v : V} : ∀ {xs : List PyData} {vs : List V}, DatL G xs vs → Dat G x v → DatL G (xs ++ [x]) (vs ++ [v])
  | [], vs, h, q => by
    cases (show vs = [] from h)
    exact ⟨v, [], rfl, q, rfl⟩
  | y :: ys, vs, h, q => by
    obtain ⟨z, r, rfl, h1, h2⟩ := h
    exact ⟨z, r ++ [v], rfl, h1, datL_snoc h2 q⟩
theorem datL_len {G : Hp} : ∀ {xs : List PyData} {vs : List V}, DatL G xs vs → vs.length = xs.length
  | [], vs, h => by
    cases (show vs = [] from h)
    rfl
  | y :: ys, vs, h => by
    obtain ⟨z, r, rfl, h1, h2⟩ := h
    simp only [List.length_cons, datL_len h2]
theorem four_pos (d : Nat) : 1 ≤ 4 ^ d := Nat.pos_of_ne_zero (by simp)
theorem many_fit {d l : Nat} (h3 : l ≤ 3) (h0 : d = 0 → l = 0) : 150 * 4 ^ (d - 1) * l + 2 * l + 3 + 100 ≤ 150 * 4 ^ d := by
  cases d with
  | zero =>
    rw [h0 rfl]
    decide
  | succ e =>
    have p := four_pos e
    rw [Nat.add_sub_cancel, Nat.pow_succ]
    have h4 : 150 * 4 ^ e * l ≤ 150 * 4 ^ e * 3 := Nat.mul_le_mul_left _ h3
    omega

theorem Oth.free {D C b : Addr} {H H' : Hp} (dk : Deck H' D C) (o : Oth D C H H') (n : H' b = none) : H b = none := by
  cases e : H b with
  | none => rfl
  | some u =>
    have z := o b u (dk.neD n) (dk.neC n) e
    rw [n] at z
    cases z
theorem Deck.other {H : Hp} {D C L : Addr} {o : HO} (dk : Deck H D C) (h1 : L ≠ D) (h2 : L ≠ C) : Deck (upd H L o) D C := by
  obtain ⟨ns, m, k, e1, e2, l⟩ := dk
  exact ⟨ns, m, k, by rw [upd_ne h1.symm]; exact e1, by rw [upd_ne h2.symm]; exact e2, l⟩
theorem Oth.other {D C L : Addr} {H H' : Hp} {o : HO} (h : Oth D C H H') (n : H L = none) : Oth D C H (upd H' L o) := fun b u h1 h2 e => by
  rw [upd_ne (ne_of_none e n)]
  exact h b u h1 h2 e

section
variable {P : Program} {w : World} {K : PySem.W.Frag} {mg : Str → Option Value} {base : Heap}
def spAny (d : Nat) : Sp := fun vs H Q _ => ∃ (D C : Addr), vs = [.ref D, .int d] ∧ Deck H D C ∧
  ∀ (v : V) (x : PyData) H', Dat (nw H H') x v → Sm (2 * (d + 1)) (150 * 4 ^ d) x → Deck H' D C → Oth D C H H' → Q v H'
theorem any_body {d k : Nat} {f fD fP : Addr} {fd fdD fdP : FuncData} {spP : Sp} (F : Fun K "_law_any" "_law_any" sAny f fd)
    (GA : FnOk P w K mg base CX0 k f fd ["_law_deck_here", "_law_deep"] spP) (hp : ∀ d', d = d' + 1 → spP = spAny d') (cA : Cal K mg "_law_any" f fd ["_law_deck_here", "_law_deep"])
    (GD : FnOk P w K mg base CX0 k fD fdD ["_law_deck_here", "_law_many"] (spDraw K)) (cD : Cal K mg "_law_draw" fD fdD ["_law_deck_here", "_law_many"])
    (GP : FnOk P w K mg base CX0 k fP fdP ["_law_deck_here", "_law_some"] (spPick K)) (cP : Cal K mg "_law_pick" fP fdP ["_law_deck_here", "_law_some"])
    (mr : mg "range" = none) (ml : mg "len" = none) (mt : mg "tuple" = none) : FnOk P w K mg base CX0 (k + 1) f fd ["_law_deck_here", "_law_deep"] (spAny d) := by
  refine F.ok scAny (fun vs H Q E h => ?_) (fun cdv A outer s H vs Q E hr h => ?_)
  · obtain ⟨D, C, rfl, _⟩ := h
    rfl
  · obtain ⟨D, C, rfl, dk, q⟩ := h
    have nd := scAny.nd
    refine ⟨_, pss_cons (ps_set (i := 2) nd rfl (.inl rfl) (pe_call GD hr (by rfl) cD.g cD.kp cD.b .nil pass0 (pa_cons (pv 0) (pa_cons pe_int pa_nil))))
      (pss_cons (ps_if (pt_cmpR op_lt (pv 2) pe_int (nomark _)) (pss_one (ps_ret (pe_call GP hr (by rfl) cP.g cP.kp cP.b .nil pass0 (pa_cons (pv 0) (pa_cons (pe_lst
        (pa_cons pe_int (pa_cons pe_int (pa_cons (pe_un un_neg pe_int) (pa_cons pe_int (pa_cons pe_int (pa_cons (pe_un un_neg pe_int) (pa_cons pe_int (pa_cons (pe_op op_pow pe_int pe_int)
        (pa_cons (pe_op op_mulW (pe_un un_neg (pe_op op_pow pe_int pe_int)) (pe_op op_pow pe_int pe_int)) pa_nil)))))))))) pa_nil))))) pss_nil)
      (pss_cons (ps_if (pt_cmpR op_eq (pv 2) pe_int (nomark _)) (pss_one (ps_ret (pe_call GP hr (by rfl) cP.g cP.kp cP.b .nil pass0 (pa_cons (pv 0) (pa_cons (pe_lst
        (pa_cons pe_str (pa_cons pe_str (pa_cons pe_str (pa_cons pe_str (pa_cons pe_str (pa_cons pe_str (pa_cons pe_str (pa_cons pe_str pa_nil))))))))) pa_nil))))) pss_nil)
      (pss_cons (ps_if (pt_cmpR op_eq (pv 2) pe_int (nomark _)) (pss_one (ps_ret (pe_call GP hr (by rfl) cP.g cP.kp cP.b .nil pass0 (pa_cons (pv 0) (pa_cons (pe_lst
        (pa_cons pe_bl (pa_cons pe_bl (pa_cons pe_non pa_nil)))) pa_nil))))) pss_nil)
      (C8.pss_cut (ps_set (i := 3) nd rfl (.inl rfl) (pe_ifExp (pt_cmpR op_gt (pv 1) pe_int (nomark _))
        (pe_lc (own := [("_law_turn", 4)]) (g := gName 4) (tt := tYes) rfl nd (pi_range1 (by rfl) mr (pa_cons (pe_call GD hr (by rfl) cD.g cD.kp cD.b .nil pass0 (pa_cons (pv 0) (pa_cons pe_int pa_nil))) pa_nil))
          (blkOk_by (N := nAny) (sc := defScope sAny) (by decide +kernel)) (fun _ _ _ _ _ => pg_name (i := 4) nd rfl (Or.inl rfl)) (fun _ _ _ _ _ => pts_nil)
          (fun _ _ _ _ _ => pe_call GA hr (by rfl) cA.g cA.kp cA.b .nil pass0 (pa_cons (pv 0) (pa_cons (pe_op op_sub (pv 1) pe_int) pa_nil)))) (pe_lst pa_nil)))
      (pss_cons (ps_if (pt_cmpR op_eq (pv 2) pe_int (nomark _)) (pss_one (ps_ret (pv 3))) pss_nil)
      (pss_one (ps_ret (pe_ifExp (pt_cmpR op_eq (pv 2) pe_int (nomark _))
        (pe_disp (pps_cons pe_str (pv 3) (pps_cons pe_int (pe_callB call_len_seq (by rfl) ml PySem.boot_len (pa_cons (pv 3) pa_nil)) pps_nil)) (by rfl) (by rfl) (by simp) (by decide))
        (pe_callTy call_tuple_of (by rfl) mt PyProof.Rows.boot_tuple (pa_cons (pv 3) pa_nil)))))))))), ?_⟩
    have hs1000 : ∀ {n : Nat}, n ≤ 1000 → n < sizeLine := fun h => small1000 h
    refine ⟨.ref D, rfl, D, C, 8, rfl, by decide, by decide, dk, fun way H1 _ _ dk1 o1 => ?_⟩
    -- a written item
    have pick : ∀ (xs : List V) (L : Addr) (E' : XK), H1 L = none → xs.all isScal = true → 0 < xs.length → xs.length ≤ 1000 → spPick K [.ref D, .ref L] (upd H1 L (.lst xs)) Q E' := fun xs L E' nL ok l0 l1 =>
      ⟨D, C, L, xs, rfl, upd_same, dk1.neD nL, dk1.neC nL, l0, l1, dk1.new nL, fun x H' hx dk' o =>
        have z := scal_ok (H := nw H H') (dp := 2 * (d + 1)) (B := 150 * 4 ^ d) (List.all_eq_true.mp ok x hx) (by have := four_pos d; omega)
        q x (scal x) H' z.1 z.2 dk' (o1.trans ((Oth.new nL).trans o))⟩
    refine ⟨.int way, rfl, way, 2, rfl, rfl, _, rfl, ite2 (fun _ => ?_) (fun _ => ?_)⟩
    · refine ⟨.ref D, rfl, 1, rfl, 4, rfl, 10, 60, rfl, rfl, ⟨by decide, by decide, by decide⟩, 10, 60, rfl, rfl, ⟨by decide, by decide, by decide⟩, _, rfl, 10, 39, rfl, rfl, ⟨by decide, by decide, by decide⟩,
        _, _, rfl, rfl, wide_mul (a := 300) (b := 300) (by decide +kernel) (by decide +kernel) (by decide) (by decide) (by decide), (by show 9 ≤ sizeLine; decide), fun L nL => ?_⟩
      exact pick _ L E0 nL (by decide +kernel) (by simp) (by simp)
    refine ⟨.int way, rfl, rfl, _, rfl, ite2 (fun _ => ?_) (fun _ => ?_)⟩
    · refine ⟨.ref D, rfl, (by show 8 ≤ sizeLine; decide), fun L nL => ?_⟩
      exact pick _ L E0 nL (by decide +kernel) (by simp) (by simp)
    refine ⟨.int way, rfl, rfl, _, rfl, ite2 (fun _ => ?_) (fun _ => ?_)⟩
    · refine ⟨.ref D, rfl, (by show 3 ≤ sizeLine; decide), fun L nL => ?_⟩
      exact pick _ L E0 nL (by decide +kernel) (by simp) (by simp)
    clear pick
    -- some
    refine ⟨fun σ H5 => ∃ (L : Addr) (vs : List V) (xs : List PyData) (y4 : Option V), σ = [some (.ref D), some (.int d), some (.int way), some (.ref L), y4] ∧ H5 L = some (.lst vs) ∧ H L = none ∧ DatL (nw H H5) xs vs ∧
      vs.length ≤ 3 ∧ (d = 0 → vs.length = 0) ∧ (∀ x ∈ xs, Sm (2 * d) (150 * 4 ^ (d - 1)) x) ∧ Deck H5 D C ∧ Oth D C H H5, ?_, ?_⟩
    · refine ⟨.int d, rfl, d, 0, rfl, rfl, _, rfl, ite2 (fun c => ?_) (fun c => ?_)⟩
      · have cd : 0 < d := by
          have z := of_decide_eq_true c
          omega
        obtain ⟨d', rfl⟩ : ∃ d', d = d' + 1 := ⟨d - 1, by omega⟩
        have esp := hp d' rfl
        subst esp
        refine ⟨.ref D, rfl, D, C, 4, rfl, by decide, by decide, dk1, fun r H2 r0 r1 dk2 o2 => ⟨r, rfl, by omega, by omega, fun L nL => ?_⟩⟩
        have o12 := o1.trans o2
        have hL : H L = none := o12.free dk2 nL
        refine lc_range (lo := 0) (n := r.toNat) (fun i H3 => ∃ (vs : List V) (xs : List PyData), H3 L = some (.lst vs) ∧ vs.length = i ∧ DatL (fun b => if b = L then none else nw H H3 b) xs vs ∧ (∀ x ∈ xs, Sm (2 * (d' + 1)) (150 * 4 ^ d') x) ∧ Deck H3 D C ∧ Oth D C H2 H3) ?_ ?_ ?_
        · exact ⟨[], [], upd_same, rfl, rfl, (fun _ h => nomatch h), dk2.new nL, Oth.new nL⟩
        · rintro i H3 hi ⟨vs, xs, e1, e2, hd, hsm, dk3, o3⟩
          have n1 : L ≠ D := dk2.neD nL
          have n2 : L ≠ C := dk2.neC nL
          refine ⟨rfl, ?_⟩
          rw [yes_eq, if_pos rfl]
          refine ⟨.ref D, rfl, .int (d' + 1 : Nat), rfl, _, 1, rfl, rfl, D, C, congrArg (fun z => [V.ref D, V.int z]) (by omega), dk3, fun v x H4 hx sx dk4 o4 => ?_⟩
          refine ⟨vs, o4 L _ n1 n2 e1, hs1000 (by omega), vs ++ [v], xs ++ [x], upd_same, by rw [List.length_append, List.length_singleton, e2], datL_snoc (hd.mono ?_ _ _) (hx.mono ?_ _ _), ?_, dk4.other n1 n2, (o3.trans o4).other nL⟩
          · intro b o e
            by_cases eb : b = L
            · rw [if_pos eb] at e
              cases e
            · rw [if_neg eb] at e ⊢
              obtain ⟨z1, z2⟩ := of_nw e
              rw [nw_at z1, upd_ne eb]
              have z3 := o4.nw (H := H) dk b o e
              rw [nw_at z1] at z3
              exact z3
          · intro b o e
            obtain ⟨z1, z2⟩ := of_nw e
            have eb : b ≠ L := fun z => by
              rw [z, e1] at z1
              cases z1
            have z0 : H b = none := (o12.trans o3).free dk3 z1
            rw [if_neg eb, nw_at z0, upd_ne eb]
            exact z2
          · intro y hy
            rcases List.mem_append.mp hy with hy | hy
            · exact hsm y hy
            · rw [List.mem_singleton.mp hy]
              exact sx
        · rintro H5 ⟨vs, xs, e1, e2, hd, hsm, dk5, o5⟩
          refine ⟨L, vs, xs, none, rfl, e1, hL, hd.mono ?_ _ _, by omega, fun z => absurd z (by omega), hsm, dk5, o12.trans o5⟩
          intro b o e
          by_cases eb : b = L
          · rw [if_pos eb] at e
            cases e
          · rw [if_neg eb] at e
            exact e
      · have cd : d = 0 := by
          have z : ¬ ((0 : Int) < d) := fun z => c (decide_eq_true z)
          omega
        refine ⟨Nat.zero_le _, fun L nL => ⟨L, [], [], none, rfl, upd_same, o1.free dk1 nL, rfl, Nat.zero_le _, fun _ => rfl, fun _ h => (nomatch h), dk1.new nL, o1.trans (Oth.new nL)⟩⟩
    · rintro σ5 H5 ⟨L, vs, xs, y4, rfl, eL, hL, hd, l3, l0, hsm, dk5, o5⟩
      have lx := datL_len hd
      have fit := many_fit (d := d) (l := xs.length) (by omega) (fun z => by rw [← lx]; exact l0 z)
      have sl := sm_list hsm
      have st := sm_tuple hsm
      refine ⟨.int way, rfl, rfl, _, rfl, ite2 (fun _ => ?_) (fun _ => ?_)⟩
      · exact ⟨.ref L, rfl, q (.ref L) (.list xs) H5 ⟨L, vs, rfl, by rw [nw_at hL]; exact eL, hd⟩ (sl.mono (by omega) (by omega)) dk5 o5⟩
      refine ⟨.int way, rfl, rfl, _, rfl, ite2 (fun _ => ?_) (fun _ => ?_)⟩
      · intro p np
        have hp0 : H p = none := o5.free dk5 np
        have eL1 : upd H5 p (.dK []) L = some (.lst vs) := by
          rw [upd_ne (ne_of_none eL np)]
          exact eL
        refine ⟨.ref L, rfl, .ref L, rfl, L, vs, rfl, .inl (.inl (.inl eL1)), upd_same, [(.inr "n", .ref L), (.inl 1, .int vs.length)], rfl, (by show 2 ≤ 15; decide), ?_⟩
        rw [upd_upd]
        refine q (.ref p) (.dict [(.str "n", .list xs), (.int 1, .int vs.length)]) _ ⟨p, _, rfl, by rw [nw_at hp0]; exact upd_same, (.inr "n", .ref L), _, rfl, rfl, ⟨L, vs, rfl, ?_, hd.mono ?_ _ _⟩, (.inl 1, .int vs.length), [], rfl, rfl, rfl, rfl⟩
          ((sm_dict sl (by omega)).mono (by omega) (by omega)) (dk5.new np) (o5.trans (Oth.new np))
        · rw [nw_at hL, upd_ne (ne_of_none eL np)]
          exact eL
        · exact nw_mono fun b o n e => by
            rw [upd_ne (ne_of_none e np)]
            exact e
      · refine ⟨.ref L, rfl, L, vs, rfl, .inl ⟨.inl (.inl eL), fun p np => ?_⟩⟩
        have hp0 : H p = none := o5.free dk5 np
        refine q (.ref p) (.tuple xs) _ ⟨p, vs, rfl, by rw [nw_at hp0]; exact upd_same, hd.mono ?_ _ _⟩ (st.mono (by omega) (by omega)) (dk5.new np) (o5.trans (Oth.new np))
        exact nw_mono fun b o n e => by
          rw [upd_ne (ne_of_none e np)]
          exact e
/-- to a depth d -/
theorem ok_any {k : Nat} {f fD fP : Addr} {fd fdD fdP : FuncData} (F : Fun K "_law_any" "_law_any" sAny f fd) (cA : Cal K mg "_law_any" f fd ["_law_deck_here", "_law_deep"])
    (GD : FnOk P w K mg base CX0 k fD fdD ["_law_deck_here", "_law_many"] (spDraw K)) (cD : Cal K mg "_law_draw" fD fdD ["_law_deck_here", "_law_many"])
    (GP : FnOk P w K mg base CX0 k fP fdP ["_law_deck_here", "_law_some"] (spPick K)) (cP : Cal K mg "_law_pick" fP fdP ["_law_deck_here", "_law_some"])
    (mr : mg "range" = none) (ml : mg "len" = none) (mt : mg "tuple" = none) : ∀ d : Nat, FnOk P w K mg base CX0 (k + 1 + d) f fd ["_law_deck_here", "_law_deep"] (spAny d)
  | 0 => any_body (spP := fun _ _ _ _ => False) F ⟨fun _ _ _ _ h => h.elim, fun _ _ _ _ _ _ _ _ _ _ _ _ _ h => h.elim⟩ (fun d' e => nomatch e) cA GD cD GP cP mr ml mt
  | d + 1 => any_body F (ok_any F cA GD cD GP cP mr ml mt d) (fun d' e => by cases e; rfl) cA (GD.mono (by show k ≤ k + 1 + d; omega)) cD (GP.mono (by show k ≤ k + 1 + d; omega)) cP mr ml mt
end
end K0
end

section
set_option maxHeartbeats 4000000
/-! the classes of the program: each __init__ by its body -/
namespace K0
open PySem PySem.Spec PyProof.Rows L2 KD
theorem vals_rev : ∀ {vs : List V} {us : List Value}, Vals vs us → Vals vs.reverse us.reverse
  | _, _, .nil => .nil
  | _, _, .cons r t => by
    rw [List.reverse_cons, List.reverse_cons]
    exact (vals_rev t).append (.cons r .nil)
section
variable {P : Program} {w : World} {K : PySem.W.Frag} {mg : Str → Option Value} {base : Heap} {C fI : Addr}

theorem sc0 : FnScope ["self", "thing"] ["self", "thing"] (defScope (inClass (topS 2) 0)) := ⟨rfl, rfl, rfl, by decide +kernel, rfl, by decide +kernel, by decide +kernel⟩
theorem c0_ok (F : Fun K "__init__" "BadWeb.__init__" (inClass (topS 2) 0) fI (fdOf K fI)) (ec : EC K C fI) (g : mg "BadWeb" = some (.ref C)) (free : PySem.W.findIn K (.ref C) "thing" = some none) : C1 P w K mg base 1 "BadWeb" C fI "thing" where
  ec := ec
  g := g
  free := free
  b := F.binds fun _ _ _ _ _ _ us hl => match us, hl with | [_, _], _ => rfl
  kb := ⟨fun s self ws _ hl => by
    obtain ⟨oc, od, kV, doc, pm, an, cdv, ct, osl, e, _⟩ := F.ex
    rw [e]
    match ws, hl with
    | [_], _ => exact .of_eq rfl, fun r => r⟩
  ok := by
    refine F.ok sc0 (fun vs H Q E h => ?_) (fun cdv A outer s H vs Q E hr h => ?_)
    · obtain ⟨_, _, _, _, rfl, _⟩ := h
      rfl
    · obtain ⟨a, D, fJ, y, rfl, ea, T, fr, q⟩ := h
      exact ⟨_, pss_one (ps_est (pv 0) (pv 1)), init1_end ea T fr rfl rfl q⟩
theorem sc1 : FnScope ["self", "thing"] ["self", "thing"] (defScope (inClass (topS 3) 0)) := ⟨rfl, rfl, rfl, by decide +kernel, rfl, by decide +kernel, by decide +kernel⟩
theorem c1_ok (F : Fun K "__init__" "BadGrowth.__init__" (inClass (topS 3) 0) fI (fdOf K fI)) (ec : EC K C fI) (g : mg "BadGrowth" = some (.ref C)) (free : PySem.W.findIn K (.ref C) "thing" = some none) : C1 P w K mg base 1 "BadGrowth" C fI "thing" where
  ec := ec
  g := g
  free := free
  b := F.binds fun _ _ _ _ _ _ us hl => match us, hl with | [_, _], _ => rfl
  kb := ⟨fun s self ws _ hl => by
    obtain ⟨oc, od, kV, doc, pm, an, cdv, ct, osl, e, _⟩ := F.ex
    rw [e]
    match ws, hl with
    | [_], _ => exact .of_eq rfl, fun r => r⟩
  ok := by
    refine F.ok sc1 (fun vs H Q E h => ?_) (fun cdv A outer s H vs Q E hr h => ?_)
    · obtain ⟨_, _, _, _, rfl, _⟩ := h
      rfl
    · obtain ⟨a, D, fJ, y, rfl, ea, T, fr, q⟩ := h
      exact ⟨_, pss_one (ps_est (pv 0) (pv 1)), init1_end ea T fr rfl rfl q⟩
theorem sc2 : FnScope ["self", "thing"] ["self", "thing"] (defScope (inClass (topS 4) 0)) := ⟨rfl, rfl, rfl, by decide +kernel, rfl, by decide +kernel, by decide +kernel⟩
theorem c2_ok (F : Fun K "__init__" "BadBook.__init__" (inClass (topS 4) 0) fI (fdOf K fI)) (ec : EC K C fI) (g : mg "BadBook" = some (.ref C)) (free : PySem.W.findIn K (.ref C) "thing" = some none) : C1 P w K mg base 1 "BadBook" C fI "thing" where
  ec := ec
  g := g
  free := free
  b := F.binds fun _ _ _ _ _ _ us hl => match us, hl with | [_, _], _ => rfl
  kb := ⟨fun s self ws _ hl => by
    obtain ⟨oc, od, kV, doc, pm, an, cdv, ct, osl, e, _⟩ := F.ex
    rw [e]
    match ws, hl with
    | [_], _ => exact .of_eq rfl, fun r => r⟩
  ok := by
    refine F.ok sc2 (fun vs H Q E h => ?_) (fun cdv A outer s H vs Q E hr h => ?_)
    · obtain ⟨_, _, _, _, rfl, _⟩ := h
      rfl
    · obtain ⟨a, D, fJ, y, rfl, ea, T, fr, q⟩ := h
      exact ⟨_, pss_one (ps_est (pv 0) (pv 1)), init1_end ea T fr rfl rfl q⟩
theorem sc3 : FnScope ["self", "thing"] ["self", "thing"] (defScope (inClass (topS 5) 0)) := ⟨rfl, rfl, rfl, by decide +kernel, rfl, by decide +kernel, by decide +kernel⟩
theorem c3_ok (F : Fun K "__init__" "BadGarden.__init__" (inClass (topS 5) 0) fI (fdOf K fI)) (ec : EC K C fI) (g : mg "BadGarden" = some (.ref C)) (free : PySem.W.findIn K (.ref C) "thing" = some none) : C1 P w K mg base 1 "BadGarden" C fI "thing" where
  ec := ec
  g := g
  free := free
  b := F.binds fun _ _ _ _ _ _ us hl => match us, hl with | [_, _], _ => rfl
  kb := ⟨fun s self ws _ hl => by
    obtain ⟨oc, od, kV, doc, pm, an, cdv, ct, osl, e, _⟩ := F.ex
    rw [e]
    match ws, hl with
    | [_], _ => exact .of_eq rfl, fun r => r⟩
  ok := by
    refine F.ok sc3 (fun vs H Q E h => ?_) (fun cdv A outer s H vs Q E hr h => ?_)
    · obtain ⟨_, _, _, _, rfl, _⟩ := h
      rfl
    · obtain ⟨a, D, fJ, y, rfl, ea, T, fr, q⟩ := h
      exact ⟨_, pss_one (ps_est (pv 0) (pv 1)), init1_end ea T fr rfl rfl q⟩
theorem sc4 : FnScope ["self", "thing"] ["self", "thing"] (defScope (inClass (topS 6) 0)) := ⟨rfl, rfl, rfl, by decide +kernel, rfl, by decide +kernel, by decide +kernel⟩
theorem c4_ok (F : Fun K "__init__" "BadRenaming.__init__" (inClass (topS 6) 0) fI (fdOf K fI)) (ec : EC K C fI) (g : mg "BadRenaming" = some (.ref C)) (free : PySem.W.findIn K (.ref C) "thing" = some none) : C1 P w K mg base 1 "BadRenaming" C fI "thing" where
  ec := ec
  g := g
  free := free
  b := F.binds fun _ _ _ _ _ _ us hl => match us, hl with | [_, _], _ => rfl
  kb := ⟨fun s self ws _ hl => by
    obtain ⟨oc, od, kV, doc, pm, an, cdv, ct, osl, e, _⟩ := F.ex
    rw [e]
    match ws, hl with
    | [_], _ => exact .of_eq rfl, fun r => r⟩
  ok := by
    refine F.ok sc4 (fun vs H Q E h => ?_) (fun cdv A outer s H vs Q E hr h => ?_)
    · obtain ⟨_, _, _, _, rfl, _⟩ := h
      rfl
    · obtain ⟨a, D, fJ, y, rfl, ea, T, fr, q⟩ := h
      exact ⟨_, pss_one (ps_est (pv 0) (pv 1)), init1_end ea T fr rfl rfl q⟩
theorem sc5 : FnScope ["self", "thing"] ["self", "thing"] (defScope (inClass (topS 9) 0)) := ⟨rfl, rfl, rfl, by decide +kernel, rfl, by decide +kernel, by decide +kernel⟩
theorem c5_ok (F : Fun K "__init__" "BadNumber.__init__" (inClass (topS 9) 0) fI (fdOf K fI)) (ec : EC K C fI) (g : mg "BadNumber" = some (.ref C)) (free : PySem.W.findIn K (.ref C) "thing" = some none) : C1 P w K mg base 1 "BadNumber" C fI "thing" where
  ec := ec
  g := g
  free := free
  b := F.binds fun _ _ _ _ _ _ us hl => match us, hl with | [_, _], _ => rfl
  kb := ⟨fun s self ws _ hl => by
    obtain ⟨oc, od, kV, doc, pm, an, cdv, ct, osl, e, _⟩ := F.ex
    rw [e]
    match ws, hl with
    | [_], _ => exact .of_eq rfl, fun r => r⟩
  ok := by
    refine F.ok sc5 (fun vs H Q E h => ?_) (fun cdv A outer s H vs Q E hr h => ?_)
    · obtain ⟨_, _, _, _, rfl, _⟩ := h
      rfl
    · obtain ⟨a, D, fJ, y, rfl, ea, T, fr, q⟩ := h
      exact ⟨_, pss_one (ps_est (pv 0) (pv 1)), init1_end ea T fr rfl rfl q⟩
theorem sc6 : FnScope ["self", "thing"] ["self", "thing"] (defScope (inClass (topS 10) 0)) := ⟨rfl, rfl, rfl, by decide +kernel, rfl, by decide +kernel, by decide +kernel⟩
theorem c6_ok (F : Fun K "__init__" "BadModulus.__init__" (inClass (topS 10) 0) fI (fdOf K fI)) (ec : EC K C fI) (g : mg "BadModulus" = some (.ref C)) (free : PySem.W.findIn K (.ref C) "thing" = some none) : C1 P w K mg base 1 "BadModulus" C fI "thing" where
  ec := ec
  g := g
  free := free
  b := F.binds fun _ _ _ _ _ _ us hl => match us, hl with | [_, _], _ => rfl
  kb := ⟨fun s self ws _ hl => by
    obtain ⟨oc, od, kV, doc, pm, an, cdv, ct, osl, e, _⟩ := F.ex
    rw [e]
    match ws, hl with
    | [_], _ => exact .of_eq rfl, fun r => r⟩
  ok := by
    refine F.ok sc6 (fun vs H Q E h => ?_) (fun cdv A outer s H vs Q E hr h => ?_)
    · obtain ⟨_, _, _, _, rfl, _⟩ := h
      rfl
    · obtain ⟨a, D, fJ, y, rfl, ea, T, fr, q⟩ := h
      exact ⟨_, pss_one (ps_est (pv 0) (pv 1)), init1_end ea T fr rfl rfl q⟩
theorem sc7 : FnScope ["self", "thing"] ["self", "thing"] (defScope (inClass (topS 11) 0)) := ⟨rfl, rfl, rfl, by decide +kernel, rfl, by decide +kernel, by decide +kernel⟩
theorem c7_ok (F : Fun K "__init__" "BadRow.__init__" (inClass (topS 11) 0) fI (fdOf K fI)) (ec : EC K C fI) (g : mg "BadRow" = some (.ref C)) (free : PySem.W.findIn K (.ref C) "thing" = some none) : C1 P w K mg base 1 "BadRow" C fI "thing" where
  ec := ec
  g := g
  free := free
  b := F.binds fun _ _ _ _ _ _ us hl => match us, hl with | [_, _], _ => rfl
  kb := ⟨fun s self ws _ hl => by
    obtain ⟨oc, od, kV, doc, pm, an, cdv, ct, osl, e, _⟩ := F.ex
    rw [e]
    match ws, hl with
    | [_], _ => exact .of_eq rfl, fun r => r⟩
  ok := by
    refine F.ok sc7 (fun vs H Q E h => ?_) (fun cdv A outer s H vs Q E hr h => ?_)
    · obtain ⟨_, _, _, _, rfl, _⟩ := h
      rfl
    · obtain ⟨a, D, fJ, y, rfl, ea, T, fr, q⟩ := h
      exact ⟨_, pss_one (ps_est (pv 0) (pv 1)), init1_end ea T fr rfl rfl q⟩
theorem sc8 : FnScope ["self", "thing"] ["self", "thing"] (defScope (inClass (topS 12) 0)) := ⟨rfl, rfl, rfl, by decide +kernel, rfl, by decide +kernel, by decide +kernel⟩
theorem c8_ok (F : Fun K "__init__" "BadAddress.__init__" (inClass (topS 12) 0) fI (fdOf K fI)) (ec : EC K C fI) (g : mg "BadAddress" = some (.ref C)) (free : PySem.W.findIn K (.ref C) "thing" = some none) : C1 P w K mg base 1 "BadAddress" C fI "thing" where
  ec := ec
  g := g
  free := free
  b := F.binds fun _ _ _ _ _ _ us hl => match us, hl with | [_, _], _ => rfl
  kb := ⟨fun s self ws _ hl => by
    obtain ⟨oc, od, kV, doc, pm, an, cdv, ct, osl, e, _⟩ := F.ex
    rw [e]
    match ws, hl with
    | [_], _ => exact .of_eq rfl, fun r => r⟩
  ok := by
    refine F.ok sc8 (fun vs H Q E h => ?_) (fun cdv A outer s H vs Q E hr h => ?_)
    · obtain ⟨_, _, _, _, rfl, _⟩ := h
      rfl
    · obtain ⟨a, D, fJ, y, rfl, ea, T, fr, q⟩ := h
      exact ⟨_, pss_one (ps_est (pv 0) (pv 1)), init1_end ea T fr rfl rfl q⟩
theorem sc9 : FnScope ["self", "thing"] ["self", "thing"] (defScope (inClass (topS 13) 0)) := ⟨rfl, rfl, rfl, by decide +kernel, rfl, by decide +kernel, by decide +kernel⟩
theorem c9_ok (F : Fun K "__init__" "BadPlace.__init__" (inClass (topS 13) 0) fI (fdOf K fI)) (ec : EC K C fI) (g : mg "BadPlace" = some (.ref C)) (free : PySem.W.findIn K (.ref C) "thing" = some none) : C1 P w K mg base 1 "BadPlace" C fI "thing" where
  ec := ec
  g := g
  free := free
  b := F.binds fun _ _ _ _ _ _ us hl => match us, hl with | [_, _], _ => rfl
  kb := ⟨fun s self ws _ hl => by
    obtain ⟨oc, od, kV, doc, pm, an, cdv, ct, osl, e, _⟩ := F.ex
    rw [e]
    match ws, hl with
    | [_], _ => exact .of_eq rfl, fun r => r⟩
  ok := by
    refine F.ok sc9 (fun vs H Q E h => ?_) (fun cdv A outer s H vs Q E hr h => ?_)
    · obtain ⟨_, _, _, _, rfl, _⟩ := h
      rfl
    · obtain ⟨a, D, fJ, y, rfl, ea, T, fr, q⟩ := h
      exact ⟨_, pss_one (ps_est (pv 0) (pv 1)), init1_end ea T fr rfl rfl q⟩
theorem sc10 : FnScope ["self", "thing"] ["self", "thing"] (defScope (inClass (topS 14) 0)) := ⟨rfl, rfl, rfl, by decide +kernel, rfl, by decide +kernel, by decide +kernel⟩
theorem c10_ok (F : Fun K "__init__" "BadWish.__init__" (inClass (topS 14) 0) fI (fdOf K fI)) (ec : EC K C fI) (g : mg "BadWish" = some (.ref C)) (free : PySem.W.findIn K (.ref C) "thing" = some none) : C1 P w K mg base 1 "BadWish" C fI "thing" where
  ec := ec
  g := g
  free := free
  b := F.binds fun _ _ _ _ _ _ us hl => match us, hl with | [_, _], _ => rfl
  kb := ⟨fun s self ws _ hl => by
    obtain ⟨oc, od, kV, doc, pm, an, cdv, ct, osl, e, _⟩ := F.ex
    rw [e]
    match ws, hl with
    | [_], _ => exact .of_eq rfl, fun r => r⟩
  ok := by
    refine F.ok sc10 (fun vs H Q E h => ?_) (fun cdv A outer s H vs Q E hr h => ?_)
    · obtain ⟨_, _, _, _, rfl, _⟩ := h
      rfl
    · obtain ⟨a, D, fJ, y, rfl, ea, T, fr, q⟩ := h
      exact ⟨_, pss_one (ps_est (pv 0) (pv 1)), init1_end ea T fr rfl rfl q⟩
theorem sc11 : FnScope ["self", "thing"] ["self", "thing"] (defScope (inClass (topS 15) 0)) := ⟨rfl, rfl, rfl, by decide +kernel, rfl, by decide +kernel, by decide +kernel⟩
theorem c11_ok (F : Fun K "__init__" "BadMarks.__init__" (inClass (topS 15) 0) fI (fdOf K fI)) (ec : EC K C fI) (g : mg "BadMarks" = some (.ref C)) (free : PySem.W.findIn K (.ref C) "thing" = some none) : C1 P w K mg base 1 "BadMarks" C fI "thing" where
  ec := ec
  g := g
  free := free
  b := F.binds fun _ _ _ _ _ _ us hl => match us, hl with | [_, _], _ => rfl
  kb := ⟨fun s self ws _ hl => by
    obtain ⟨oc, od, kV, doc, pm, an, cdv, ct, osl, e, _⟩ := F.ex
    rw [e]
    match ws, hl with
    | [_], _ => exact .of_eq rfl, fun r => r⟩
  ok := by
    refine F.ok sc11 (fun vs H Q E h => ?_) (fun cdv A outer s H vs Q E hr h => ?_)
    · obtain ⟨_, _, _, _, rfl, _⟩ := h
      rfl
    · obtain ⟨a, D, fJ, y, rfl, ea, T, fr, q⟩ := h
      exact ⟨_, pss_one (ps_est (pv 0) (pv 1)), init1_end ea T fr rfl rfl q⟩
theorem sc12 : FnScope ["self", "thing"] ["self", "thing"] (defScope (inClass (topS 16) 0)) := ⟨rfl, rfl, rfl, by decide +kernel, rfl, by decide +kernel, by decide +kernel⟩
theorem c12_ok (F : Fun K "__init__" "BadPlan.__init__" (inClass (topS 16) 0) fI (fdOf K fI)) (ec : EC K C fI) (g : mg "BadPlan" = some (.ref C)) (free : PySem.W.findIn K (.ref C) "thing" = some none) : C1 P w K mg base 1 "BadPlan" C fI "thing" where
  ec := ec
  g := g
  free := free
  b := F.binds fun _ _ _ _ _ _ us hl => match us, hl with | [_, _], _ => rfl
  kb := ⟨fun s self ws _ hl => by
    obtain ⟨oc, od, kV, doc, pm, an, cdv, ct, osl, e, _⟩ := F.ex
    rw [e]
    match ws, hl with
    | [_], _ => exact .of_eq rfl, fun r => r⟩
  ok := by
    refine F.ok sc12 (fun vs H Q E h => ?_) (fun cdv A outer s H vs Q E hr h => ?_)
    · obtain ⟨_, _, _, _, rfl, _⟩ := h
      rfl
    · obtain ⟨a, D, fJ, y, rfl, ea, T, fr, q⟩ := h
      exact ⟨_, pss_one (ps_est (pv 0) (pv 1)), init1_end ea T fr rfl rfl q⟩
theorem sc13 : FnScope ["self", "thing"] ["self", "thing"] (defScope (inClass (topS 17) 0)) := ⟨rfl, rfl, rfl, by decide +kernel, rfl, by decide +kernel, by decide +kernel⟩
theorem c13_ok (F : Fun K "__init__" "BadCount.__init__" (inClass (topS 17) 0) fI (fdOf K fI)) (ec : EC K C fI) (g : mg "BadCount" = some (.ref C)) (free : PySem.W.findIn K (.ref C) "thing" = some none) : C1 P w K mg base 1 "BadCount" C fI "thing" where
  ec := ec
  g := g
  free := free
  b := F.binds fun _ _ _ _ _ _ us hl => match us, hl with | [_, _], _ => rfl
  kb := ⟨fun s self ws _ hl => by
    obtain ⟨oc, od, kV, doc, pm, an, cdv, ct, osl, e, _⟩ := F.ex
    rw [e]
    match ws, hl with
    | [_], _ => exact .of_eq rfl, fun r => r⟩
  ok := by
    refine F.ok sc13 (fun vs H Q E h => ?_) (fun cdv A outer s H vs Q E hr h => ?_)
    · obtain ⟨_, _, _, _, rfl, _⟩ := h
      rfl
    · obtain ⟨a, D, fJ, y, rfl, ea, T, fr, q⟩ := h
      exact ⟨_, pss_one (ps_est (pv 0) (pv 1)), init1_end ea T fr rfl rfl q⟩
theorem sc14 : FnScope ["self", "thing"] ["self", "thing"] (defScope (inClass (topS 18) 0)) := ⟨rfl, rfl, rfl, by decide +kernel, rfl, by decide +kernel, by decide +kernel⟩
theorem c14_ok (F : Fun K "__init__" "BadKind.__init__" (inClass (topS 18) 0) fI (fdOf K fI)) (ec : EC K C fI) (g : mg "BadKind" = some (.ref C)) (free : PySem.W.findIn K (.ref C) "thing" = some none) : C1 P w K mg base 1 "BadKind" C fI "thing" where
  ec := ec
  g := g
  free := free
  b := F.binds fun _ _ _ _ _ _ us hl => match us, hl with | [_, _], _ => rfl
  kb := ⟨fun s self ws _ hl => by
    obtain ⟨oc, od, kV, doc, pm, an, cdv, ct, osl, e, _⟩ := F.ex
    rw [e]
    match ws, hl with
    | [_], _ => exact .of_eq rfl, fun r => r⟩
  ok := by
    refine F.ok sc14 (fun vs H Q E h => ?_) (fun cdv A outer s H vs Q E hr h => ?_)
    · obtain ⟨_, _, _, _, rfl, _⟩ := h
      rfl
    · obtain ⟨a, D, fJ, y, rfl, ea, T, fr, q⟩ := h
      exact ⟨_, pss_one (ps_est (pv 0) (pv 1)), init1_end ea T fr rfl rfl q⟩
theorem sc15 : FnScope ["self", "thing"] ["self", "thing"] (defScope (inClass (topS 19) 0)) := ⟨rfl, rfl, rfl, by decide +kernel, rfl, by decide +kernel, by decide +kernel⟩
theorem c15_ok (F : Fun K "__init__" "BadTies.__init__" (inClass (topS 19) 0) fI (fdOf K fI)) (ec : EC K C fI) (g : mg "BadTies" = some (.ref C)) (free : PySem.W.findIn K (.ref C) "thing" = some none) : C1 P w K mg base 1 "BadTies" C fI "thing" where
  ec := ec
  g := g
  free := free
  b := F.binds fun _ _ _ _ _ _ us hl => match us, hl with | [_, _], _ => rfl
  kb := ⟨fun s self ws _ hl => by
    obtain ⟨oc, od, kV, doc, pm, an, cdv, ct, osl, e, _⟩ := F.ex
    rw [e]
    match ws, hl with
    | [_], _ => exact .of_eq rfl, fun r => r⟩
  ok := by
    refine F.ok sc15 (fun vs H Q E h => ?_) (fun cdv A outer s H vs Q E hr h => ?_)
    · obtain ⟨_, _, _, _, rfl, _⟩ := h
      rfl
    · obtain ⟨a, D, fJ, y, rfl, ea, T, fr, q⟩ := h
      exact ⟨_, pss_one (ps_est (pv 0) (pv 1)), init1_end ea T fr rfl rfl q⟩
theorem sc16 : FnScope ["self", "thing"] ["self", "thing"] (defScope (inClass (topS 20) 0)) := ⟨rfl, rfl, rfl, by decide +kernel, rfl, by decide +kernel, by decide +kernel⟩
theorem c16_ok (F : Fun K "__init__" "BadTie.__init__" (inClass (topS 20) 0) fI (fdOf K fI)) (ec : EC K C fI) (g : mg "BadTie" = some (.ref C)) (free : PySem.W.findIn K (.ref C) "thing" = some none) : C1 P w K mg base 1 "BadTie" C fI "thing" where
  ec := ec
  g := g
  free := free
  b := F.binds fun _ _ _ _ _ _ us hl => match us, hl with | [_, _], _ => rfl
  kb := ⟨fun s self ws _ hl => by
    obtain ⟨oc, od, kV, doc, pm, an, cdv, ct, osl, e, _⟩ := F.ex
    rw [e]
    match ws, hl with
    | [_], _ => exact .of_eq rfl, fun r => r⟩
  ok := by
    refine F.ok sc16 (fun vs H Q E h => ?_) (fun cdv A outer s H vs Q E hr h => ?_)
    · obtain ⟨_, _, _, _, rfl, _⟩ := h
      rfl
    · obtain ⟨a, D, fJ, y, rfl, ea, T, fr, q⟩ := h
      exact ⟨_, pss_one (ps_est (pv 0) (pv 1)), init1_end ea T fr rfl rfl q⟩
theorem sc17 : FnScope ["self", "thing"] ["self", "thing"] (defScope (inClass (topS 21) 0)) := ⟨rfl, rfl, rfl, by decide +kernel, rfl, by decide +kernel, by decide +kernel⟩
theorem c17_ok (F : Fun K "__init__" "BadShelf.__init__" (inClass (topS 21) 0) fI (fdOf K fI)) (ec : EC K C fI) (g : mg "BadShelf" = some (.ref C)) (free : PySem.W.findIn K (.ref C) "thing" = some none) : C1 P w K mg base 1 "BadShelf" C fI "thing" where
  ec := ec
  g := g
  free := free
  b := F.binds fun _ _ _ _ _ _ us hl => match us, hl with | [_, _], _ => rfl
  kb := ⟨fun s self ws _ hl => by
    obtain ⟨oc, od, kV, doc, pm, an, cdv, ct, osl, e, _⟩ := F.ex
    rw [e]
    match ws, hl with
    | [_], _ => exact .of_eq rfl, fun r => r⟩
  ok := by
    refine F.ok sc17 (fun vs H Q E h => ?_) (fun cdv A outer s H vs Q E hr h => ?_)
    · obtain ⟨_, _, _, _, rfl, _⟩ := h
      rfl
    · obtain ⟨a, D, fJ, y, rfl, ea, T, fr, q⟩ := h
      exact ⟨_, pss_one (ps_est (pv 0) (pv 1)), init1_end ea T fr rfl rfl q⟩
theorem sc18 : FnScope ["self", "thing"] ["self", "thing"] (defScope (inClass (topS 22) 0)) := ⟨rfl, rfl, rfl, by decide +kernel, rfl, by decide +kernel, by decide +kernel⟩
theorem c18_ok (F : Fun K "__init__" "BadFacts.__init__" (inClass (topS 22) 0) fI (fdOf K fI)) (ec : EC K C fI) (g : mg "BadFacts" = some (.ref C)) (free : PySem.W.findIn K (.ref C) "thing" = some none) : C1 P w K mg base 1 "BadFacts" C fI "thing" where
  ec := ec
  g := g
  free := free
  b := F.binds fun _ _ _ _ _ _ us hl => match us, hl with | [_, _], _ => rfl
  kb := ⟨fun s self ws _ hl => by
    obtain ⟨oc, od, kV, doc, pm, an, cdv, ct, osl, e, _⟩ := F.ex
    rw [e]
    match ws, hl with
    | [_], _ => exact .of_eq rfl, fun r => r⟩
  ok := by
    refine F.ok sc18 (fun vs H Q E h => ?_) (fun cdv A outer s H vs Q E hr h => ?_)
    · obtain ⟨_, _, _, _, rfl, _⟩ := h
      rfl
    · obtain ⟨a, D, fJ, y, rfl, ea, T, fr, q⟩ := h
      exact ⟨_, pss_one (ps_est (pv 0) (pv 1)), init1_end ea T fr rfl rfl q⟩
theorem sc19 : FnScope ["self", "at"] ["self", "at"] (defScope (inClass (topS 7) 0)) := ⟨rfl, rfl, rfl, by decide +kernel, rfl, by decide +kernel, by decide +kernel⟩
theorem c19_ok (F : Fun K "__init__" "BadText.__init__" (inClass (topS 7) 0) fI (fdOf K fI)) (ec : EC K C fI) (g : mg "BadText" = some (.ref C)) (free : PySem.W.findIn K (.ref C) "at" = some none) : C1 P w K mg base 1 "BadText" C fI "at" where
  ec := ec
  g := g
  free := free
  b := F.binds fun _ _ _ _ _ _ us hl => match us, hl with | [_, _], _ => rfl
  kb := ⟨fun s self ws _ hl => by
    obtain ⟨oc, od, kV, doc, pm, an, cdv, ct, osl, e, _⟩ := F.ex
    rw [e]
    match ws, hl with
    | [_], _ => exact .of_eq rfl, fun r => r⟩
  ok := by
    refine F.ok sc19 (fun vs H Q E h => ?_) (fun cdv A outer s H vs Q E hr h => ?_)
    · obtain ⟨_, _, _, _, rfl, _⟩ := h
      rfl
    · obtain ⟨a, D, fJ, y, rfl, ea, T, fr, q⟩ := h
      exact ⟨_, pss_one (ps_est (pv 0) (pv 1)), init1_end ea T fr rfl rfl q⟩
theorem sc20 : FnScope ["self", "at"] ["self", "at"] (defScope (inClass (topS 24) 0)) := ⟨rfl, rfl, rfl, by decide +kernel, rfl, by decide +kernel, by decide +kernel⟩
theorem c20_ok (F : Fun K "__init__" "BadChange.__init__" (inClass (topS 24) 0) fI (fdOf K fI)) (ec : EC K C fI) (g : mg "BadChange" = some (.ref C)) (free : PySem.W.findIn K (.ref C) "at" = some none) : C1 P w K mg base 1 "BadChange" C fI "at" where
  ec := ec
  g := g
  free := free
  b := F.binds fun _ _ _ _ _ _ us hl => match us, hl with | [_, _], _ => rfl
  kb := ⟨fun s self ws _ hl => by
    obtain ⟨oc, od, kV, doc, pm, an, cdv, ct, osl, e, _⟩ := F.ex
    rw [e]
    match ws, hl with
    | [_], _ => exact .of_eq rfl, fun r => r⟩
  ok := by
    refine F.ok sc20 (fun vs H Q E h => ?_) (fun cdv A outer s H vs Q E hr h => ?_)
    · obtain ⟨_, _, _, _, rfl, _⟩ := h
      rfl
    · obtain ⟨a, D, fJ, y, rfl, ea, T, fr, q⟩ := h
      exact ⟨_, pss_one (ps_est (pv 0) (pv 1)), init1_end ea T fr rfl rfl q⟩
theorem sc21 : FnScope ["self", "most"] ["self", "most"] (defScope (inClass (topS 8) 0)) := ⟨rfl, rfl, rfl, by decide +kernel, rfl, by decide +kernel, by decide +kernel⟩
theorem c21_ok (F : Fun K "__init__" "TooMany.__init__" (inClass (topS 8) 0) fI (fdOf K fI)) (ec : EC K C fI) (g : mg "TooMany" = some (.ref C)) (free : PySem.W.findIn K (.ref C) "most" = some none) : C1 P w K mg base 1 "TooMany" C fI "most" where
  ec := ec
  g := g
  free := free
  b := F.binds fun _ _ _ _ _ _ us hl => match us, hl with | [_, _], _ => rfl
  kb := ⟨fun s self ws _ hl => by
    obtain ⟨oc, od, kV, doc, pm, an, cdv, ct, osl, e, _⟩ := F.ex
    rw [e]
    match ws, hl with
    | [_], _ => exact .of_eq rfl, fun r => r⟩
  ok := by
    refine F.ok sc21 (fun vs H Q E h => ?_) (fun cdv A outer s H vs Q E hr h => ?_)
    · obtain ⟨_, _, _, _, rfl, _⟩ := h
      rfl
    · obtain ⟨a, D, fJ, y, rfl, ea, T, fr, q⟩ := h
      exact ⟨_, pss_one (ps_est (pv 0) (pv 1)), init1_end ea T fr rfl rfl q⟩
theorem sc22 : FnScope ["self", "c"] ["self", "c"] (defScope (inClass (topS 28) 0)) := ⟨rfl, rfl, rfl, by decide +kernel, rfl, by decide +kernel, by decide +kernel⟩
theorem c22_ok (F : Fun K "__init__" "InUse.__init__" (inClass (topS 28) 0) fI (fdOf K fI)) (ec : EC K C fI) (g : mg "InUse" = some (.ref C)) (free : PySem.W.findIn K (.ref C) "c" = some none) : C1 P w K mg base 1 "InUse" C fI "c" where
  ec := ec
  g := g
  free := free
  b := F.binds fun _ _ _ _ _ _ us hl => match us, hl with | [_, _], _ => rfl
  kb := ⟨fun s self ws _ hl => by
    obtain ⟨oc, od, kV, doc, pm, an, cdv, ct, osl, e, _⟩ := F.ex
    rw [e]
    match ws, hl with
    | [_], _ => exact .of_eq rfl, fun r => r⟩
  ok := by
    refine F.ok sc22 (fun vs H Q E h => ?_) (fun cdv A outer s H vs Q E hr h => ?_)
    · obtain ⟨_, _, _, _, rfl, _⟩ := h
      rfl
    · obtain ⟨a, D, fJ, y, rfl, ea, T, fr, q⟩ := h
      exact ⟨_, pss_one (ps_est (pv 0) (pv 1)), init1_end ea T fr rfl rfl q⟩
theorem sc23 : FnScope ["self", "wish", "n"] ["self", "wish", "n"] (defScope (inClass (topS 25) 0)) := ⟨rfl, rfl, rfl, by decide +kernel, rfl, by decide +kernel, by decide +kernel⟩
theorem c23_ok (F : Fun K "__init__" "Unkept.__init__" (inClass (topS 25) 0) fI (fdOf K fI)) (ec : EC K C fI) (g : mg "Unkept" = some (.ref C)) (free : PySem.W.findIn K (.ref C) "wish" = some none) (free2 : PySem.W.findIn K (.ref C) "n" = some none) : C2 P w K mg base 1 "Unkept" C fI "wish" "n" where
  ec := ec
  g := g
  free := free
  free2 := free2
  b := F.binds fun _ _ _ _ _ _ us hl => match us, hl with | [_, _, _], _ => rfl
  kb := ⟨fun s self ws _ hl => by
    obtain ⟨oc, od, kV, doc, pm, an, cdv, ct, osl, e, _⟩ := F.ex
    rw [e]
    match ws, hl with
    | [_, _], _ => exact .of_eq rfl, fun r => vals_rev r⟩
  ok := by
    refine F.ok sc23 (fun vs H Q E h => ?_) (fun cdv A outer s H vs Q E hr h => ?_)
    · obtain ⟨_, _, _, _, _, rfl, _⟩ := h
      rfl
    · obtain ⟨a, D, fJ, y, z, rfl, ea, T, fr, fr2, q⟩ := h
      refine ⟨_, pss_cons (ps_est (pv 0) (pv 1)) (pss_one (ps_est (pv 0) (pv 2))), init1_end ea T fr rfl rfl fun d H' keep nd e1 e2 => ?_⟩
      have ne : a ≠ d := ne_of_none ea nd
      refine ⟨z, rfl, .ref a, rfl, a, D, fJ, rfl, T, fr2, .inr ⟨d, _, e1, e2, (by show 1 ≤ 900; decide), q d _ (fun b o hb e => ?_) nd ?_ upd_same⟩⟩
      · rw [upd_ne (ne_of_none e nd)]
        exact keep b o hb e
      · rw [upd_ne ne]
        exact e1
theorem sc24 : FnScope ["self"] ["self"] (defScope (inClass (topS 23) 0)) := ⟨rfl, rfl, rfl, by decide +kernel, rfl, by decide +kernel, by decide +kernel⟩
theorem c24_ok (F : Fun K "__init__" "NoneLeft.__init__" (inClass (topS 23) 0) fI (fdOf K fI)) (ec : EC K C fI) (g : mg "NoneLeft" = some (.ref C)) : C0 P w K mg base 1 "NoneLeft" C fI where
  ec := ec
  g := g
  b := F.binds fun _ _ _ _ _ _ us hl => match us, hl with | [_], _ => rfl
  ok := by
    refine F.ok sc24 (fun vs H Q E h => ?_) (fun cdv A outer s H vs Q E hr h => ?_)
    · obtain ⟨_, rfl, _⟩ := h
      rfl
    · obtain ⟨a, rfl, q⟩ := h
      exact ⟨_, pss_one ps_pass, q⟩
theorem sc25 : FnScope ["self"] ["self"] (defScope (inClass (topS 26) 0)) := ⟨rfl, rfl, rfl, by decide +kernel, rfl, by decide +kernel, by decide +kernel⟩
theorem c25_ok (F : Fun K "__init__" "Full.__init__" (inClass (topS 26) 0) fI (fdOf K fI)) (ec : EC K C fI) (g : mg "Full" = some (.ref C)) : C0 P w K mg base 1 "Full" C fI where
  ec := ec
  g := g
  b := F.binds fun _ _ _ _ _ _ us hl => match us, hl with | [_], _ => rfl
  ok := by
    refine F.ok sc25 (fun vs H Q E h => ?_) (fun cdv A outer s H vs Q E hr h => ?_)
    · obtain ⟨_, rfl, _⟩ := h
      rfl
    · obtain ⟨a, rfl, q⟩ := h
      exact ⟨_, pss_one ps_pass, q⟩
theorem sc26 : FnScope ["self"] ["self"] (defScope (inClass (topS 27) 0)) := ⟨rfl, rfl, rfl, by decide +kernel, rfl, by decide +kernel, by decide +kernel⟩
theorem c26_ok (F : Fun K "__init__" "LastKind.__init__" (inClass (topS 27) 0) fI (fdOf K fI)) (ec : EC K C fI) (g : mg "LastKind" = some (.ref C)) : C0 P w K mg base 1 "LastKind" C fI where
  ec := ec
  g := g
  b := F.binds fun _ _ _ _ _ _ us hl => match us, hl with | [_], _ => rfl
  ok := by
    refine F.ok sc26 (fun vs H Q E h => ?_) (fun cdv A outer s H vs Q E hr h => ?_)
    · obtain ⟨_, rfl, _⟩ := h
      rfl
    · obtain ⟨a, rfl, q⟩ := h
      exact ⟨_, pss_one ps_pass, q⟩
theorem sc27 : FnScope ["self"] ["self"] (defScope (inClass (topS 29) 0)) := ⟨rfl, rfl, rfl, by decide +kernel, rfl, by decide +kernel, by decide +kernel⟩
theorem c27_ok (F : Fun K "__init__" "NothingToUndo.__init__" (inClass (topS 29) 0) fI (fdOf K fI)) (ec : EC K C fI) (g : mg "NothingToUndo" = some (.ref C)) : C0 P w K mg base 1 "NothingToUndo" C fI where
  ec := ec
  g := g
  b := F.binds fun _ _ _ _ _ _ us hl => match us, hl with | [_], _ => rfl
  ok := by
    refine F.ok sc27 (fun vs H Q E h => ?_) (fun cdv A outer s H vs Q E hr h => ?_)
    · obtain ⟨_, rfl, _⟩ := h
      rfl
    · obtain ⟨a, rfl, q⟩ := h
      exact ⟨_, pss_one ps_pass, q⟩
theorem sc28 : FnScope ["self"] ["self"] (defScope (inClass (topS 30) 0)) := ⟨rfl, rfl, rfl, by decide +kernel, rfl, by decide +kernel, by decide +kernel⟩
theorem c28_ok (F : Fun K "__init__" "NothingToRedo.__init__" (inClass (topS 30) 0) fI (fdOf K fI)) (ec : EC K C fI) (g : mg "NothingToRedo" = some (.ref C)) : C0 P w K mg base 1 "NothingToRedo" C fI where
  ec := ec
  g := g
  b := F.binds fun _ _ _ _ _ _ us hl => match us, hl with | [_], _ => rfl
  ok := by
    refine F.ok sc28 (fun vs H Q E h => ?_) (fun cdv A outer s H vs Q E hr h => ?_)
    · obtain ⟨_, rfl, _⟩ := h
      rfl
    · obtain ⟨a, rfl, q⟩ := h
      exact ⟨_, pss_one ps_pass, q⟩
end
end K0
end

section
set_option maxHeartbeats 8000000
namespace K0
open PySem PySem.Spec PyProof.Rows L2 KD
/-- the classes, by number -/
structure Cls (P : Program) (w : World) (K : PySem.W.Frag) (mg : Str → Option Value) (base : Heap) (cA fA : Nat → Addr) : Prop where
  c0 : C1 P w K mg base 1 "BadWeb" (cA 0) (fA 0) "thing"
  c1 : C1 P w K mg base 1 "BadGrowth" (cA 1) (fA 1) "thing"
  c2 : C1 P w K mg base 1 "BadBook" (cA 2) (fA 2) "thing"
  c3 : C1 P w K mg base 1 "BadGarden" (cA 3) (fA 3) "thing"
  c4 : C1 P w K mg base 1 "BadRenaming" (cA 4) (fA 4) "thing"
  c5 : C1 P w K mg base 1 "BadNumber" (cA 5) (fA 5) "thing"
  c6 : C1 P w K mg base 1 "BadModulus" (cA 6) (fA 6) "thing"
  c7 : C1 P w K mg base 1 "BadRow" (cA 7) (fA 7) "thing"
  c8 : C1 P w K mg base 1 "BadAddress" (cA 8) (fA 8) "thing"
  c9 : C1 P w K mg base 1 "BadPlace" (cA 9) (fA 9) "thing"
  c10 : C1 P w K mg base 1 "BadWish" (cA 10) (fA 10) "thing"
  c11 : C1 P w K mg base 1 "BadMarks" (cA 11) (fA 11) "thing"
  c12 : C1 P w K mg base 1 "BadPlan" (cA 12) (fA 12) "thing"
  c13 : C1 P w K mg base 1 "BadCount" (cA 13) (fA 13) "thing"
  c14 : C1 P w K mg base 1 "BadKind" (cA 14) (fA 14) "thing"
  c15 : C1 P w K mg base 1 "BadTies" (cA 15) (fA 15) "thing"
  c16 : C1 P w K mg base 1 "BadTie" (cA 16) (fA 16) "thing"
  c17 : C1 P w K mg base 1 "BadShelf" (cA 17) (fA 17) "thing"
  c18 : C1 P w K mg base 1 "BadFacts" (cA 18) (fA 18) "thing"
  c19 : C1 P w K mg base 1 "BadText" (cA 19) (fA 19) "at"
  c20 : C1 P w K mg base 1 "BadChange" (cA 20) (fA 20) "at"
  c21 : C1 P w K mg base 1 "TooMany" (cA 21) (fA 21) "most"
  c22 : C1 P w K mg base 1 "InUse" (cA 22) (fA 22) "c"
  c23 : C2 P w K mg base 1 "Unkept" (cA 23) (fA 23) "wish" "n"
  c24 : C0 P w K mg base 1 "NoneLeft" (cA 24) (fA 24)
  c25 : C0 P w K mg base 1 "Full" (cA 25) (fA 25)
  c26 : C0 P w K mg base 1 "LastKind" (cA 26) (fA 26)
  c27 : C0 P w K mg base 1 "NothingToUndo" (cA 27) (fA 27)
  c28 : C0 P w K mg base 1 "NothingToRedo" (cA 28) (fA 28)
/-- what is made, by position or by name -/
def specs (cA : Nat → Addr) (it far : V) : List (Addr × List (Str × V)) := [(cA 0, [("thing", it)]), (cA 1, [("thing", it)]), (cA 2, [("thing", it)]), (cA 3, [("thing", it)]), (cA 4, [("thing", it)]), (cA 5, [("thing", it)]), (cA 6, [("thing", it)]), (cA 7, [("thing", it)]), (cA 8, [("thing", it)]), (cA 9, [("thing", it)]), (cA 10, [("thing", it)]), (cA 11, [("thing", it)]), (cA 12, [("thing", it)]), (cA 13, [("thing", it)]), (cA 14, [("thing", it)]), (cA 15, [("thing", it)]), (cA 16, [("thing", it)]), (cA 17, [("thing", it)]), (cA 18, [("thing", it)]), (cA 19, [("at", it)]), (cA 20, [("at", it)]), (cA 21, [("most", it)]), (cA 22, [("c", it)]), (cA 23, [("n", far), ("wish", it)])]
abbrev sPos : Stmt := topS 36
abbrev sByN : Stmt := topS 37
theorem scPos : FnScope ["_law_it", "_law_far", "_law_found"] ["_law_it", "_law_far"] (defScope sPos) := ⟨rfl, rfl, rfl, by decide +kernel, rfl, by decide +kernel, by decide +kernel⟩
theorem scByN : FnScope ["_law_it", "_law_far", "_law_found"] ["_law_it", "_law_far"] (defScope sByN) := ⟨rfl, rfl, rfl, by decide +kernel, rfl, by decide +kernel, by decide +kernel⟩
theorem upd_at {H : Hp} {p b : Addr} {o u : HO} (n : H p = none) (e : H b = some u) : upd H p o b = some u := by
  rw [upd_ne (ne_of_none e n)]
  exact e
theorem same_n {H : Hp} {p : Addr} {o : HO} (n : H p = none) : Same H (upd H p o) := fun b u e => upd_at n e
theorem line_le {n : Nat} (h : n ≤ 1000) : n ≤ sizeLine := Nat.le_trans h (by decide)
section
variable {P : Program} {w : World} {K : PySem.W.Frag} {mg : Str → Option Value} {base : Heap} {cA fA : Nat → Addr}
def spMade (cA : Nat → Addr) : Sp := fun vs H Q _ => ∃ it far : V, vs = [it, far] ∧ ∀ p as H', Same H H' → H p = none → H' p = some (.lst (as.map V.ref)) → ObjL H' as (specs cA it far) → Q (.ref p) H'

theorem ok_pos {f : Addr} {fd : FuncData} (F : Fun K "_law_by_position" "_law_by_position" sPos f fd) (e : Cls P w K mg base cA fA) : FnOk P w K mg base CX0 3 f fd ["_law_it", "_law_far"] (spMade cA) := by
  refine F.ok scPos (fun vs H Q E h => ?_) (fun cdv A outer s H vs Q E hr h => ?_)
  · obtain ⟨it, far, rfl, _⟩ := h
    rfl
  · obtain ⟨it, far, rfl, q⟩ := h
    let cond : L2.St → Prop := fun σ => σ[0]? = some (some it) ∧ σ[1]? = some (some far)
    let s0 : List (Addr × List (Str × V)) := [(cA 0, [("thing", it)]), (cA 1, [("thing", it)]), (cA 2, [("thing", it)]), (cA 3, [("thing", it)]), (cA 4, [("thing", it)]), (cA 5, [("thing", it)]), (cA 6, [("thing", it)])]
    let s1 : List (Addr × List (Str × V)) := [(cA 7, [("thing", it)]), (cA 8, [("thing", it)]), (cA 9, [("thing", it)]), (cA 10, [("thing", it)]), (cA 11, [("thing", it)]), (cA 12, [("thing", it)]), (cA 13, [("thing", it)])]
    let s2 : List (Addr × List (Str × V)) := [(cA 14, [("thing", it)]), (cA 15, [("thing", it)]), (cA 16, [("thing", it)]), (cA 17, [("thing", it)]), (cA 18, [("thing", it)]), (cA 19, [("at", it)]), (cA 20, [("at", it)])]
    let s3 : List (Addr × List (Str × V)) := [(cA 21, [("most", it)]), (cA 22, [("c", it)]), (cA 23, [("n", far), ("wish", it)])]
    refine ⟨_, pss_cons (ps_set (i := 2) scPos.nd rfl (.inl rfl) (pe_lst (pa_ev_cons (pe_new1 e.c0 hr (pv 0) (fun _ c => c.1)) (pa_ev_cons (pe_new1 e.c1 hr (pv 0) (fun _ c => c.1)) (pa_ev_cons (pe_new1 e.c2 hr (pv 0) (fun _ c => c.1)) (pa_ev_cons (pe_new1 e.c3 hr (pv 0) (fun _ c => c.1)) (pa_ev_cons (pe_new1 e.c4 hr (pv 0) (fun _ c => c.1)) (pa_ev_cons (pe_new1 e.c5 hr (pv 0) (fun _ c => c.1)) (pa_ev_cons (pe_new1 e.c6 hr (pv 0) (fun _ c => c.1)) (pa_ev_nil (cond := cond)))))))))))
      (pss_cons (ps_set (i := 2) scPos.nd rfl (.inl rfl) (pe_op op_cat (pv 2) (pe_lst (pa_ev_cons (pe_new1 e.c7 hr (pv 0) (fun _ c => c.1)) (pa_ev_cons (pe_new1 e.c8 hr (pv 0) (fun _ c => c.1)) (pa_ev_cons (pe_new1 e.c9 hr (pv 0) (fun _ c => c.1)) (pa_ev_cons (pe_new1 e.c10 hr (pv 0) (fun _ c => c.1)) (pa_ev_cons (pe_new1 e.c11 hr (pv 0) (fun _ c => c.1)) (pa_ev_cons (pe_new1 e.c12 hr (pv 0) (fun _ c => c.1)) (pa_ev_cons (pe_new1 e.c13 hr (pv 0) (fun _ c => c.1)) (pa_ev_nil (cond := cond))))))))))))
      (pss_cons (ps_set (i := 2) scPos.nd rfl (.inl rfl) (pe_op op_cat (pv 2) (pe_lst (pa_ev_cons (pe_new1 e.c14 hr (pv 0) (fun _ c => c.1)) (pa_ev_cons (pe_new1 e.c15 hr (pv 0) (fun _ c => c.1)) (pa_ev_cons (pe_new1 e.c16 hr (pv 0) (fun _ c => c.1)) (pa_ev_cons (pe_new1 e.c17 hr (pv 0) (fun _ c => c.1)) (pa_ev_cons (pe_new1 e.c18 hr (pv 0) (fun _ c => c.1)) (pa_ev_cons (pe_new1 e.c19 hr (pv 0) (fun _ c => c.1)) (pa_ev_cons (pe_new1 e.c20 hr (pv 0) (fun _ c => c.1)) (pa_ev_nil (cond := cond))))))))))))
      (pss_one (ps_ret (pe_op op_cat (pv 2) (pe_lst (pa_ev_cons (pe_new1 e.c21 hr (pv 0) (fun _ c => c.1)) (pa_ev_cons (pe_new1 e.c22 hr (pv 0) (fun _ c => c.1)) (pa_ev_cons (pe_new2 e.c23 hr (pv 0) (pv 1) (fun _ c => c)) (pa_ev_nil (cond := cond))))))))))), ?_⟩
    refine ⟨⟨rfl, rfl⟩, fun as0 H0 m0 o0 => ⟨line_le (by rw [List.length_map, o0.len]; exact Nat.le_of_ble_eq_true rfl), fun p0 n0 => ?_⟩⟩
    have e0 : upd H0 p0 (.lst (as0.map V.ref)) p0 = some (.lst (as0.map V.ref)) := upd_same
    have z0 : H p0 = none := m0.free n0
    have t0 := m0.trans (same_n (o := .lst (as0.map V.ref)) n0)
    have u0 := o0.same (same_n (o := .lst (as0.map V.ref)) n0)
    generalize upd H0 p0 (.lst (as0.map V.ref)) = G0 at e0 t0 u0
    refine ⟨.ref p0, rfl, ⟨rfl, rfl⟩, fun bs1 H1 m1 o1 => ⟨line_le (by rw [List.length_map, o1.len]; exact Nat.le_of_ble_eq_true rfl), fun r1 k1 => ?_⟩⟩
    have x1 := m1.trans (same_n (o := .lst (bs1.map V.ref)) k1)
    have y1 := o1.same (same_n (o := .lst (bs1.map V.ref)) k1)
    have w1 : upd H1 r1 (.lst (bs1.map V.ref)) r1 = some (.lst (bs1.map V.ref)) := upd_same
    generalize upd H1 r1 (.lst (bs1.map V.ref)) = J1 at x1 y1 w1
    refine ⟨p0, r1, _, _, rfl, rfl, x1 _ _ e0, w1, line_le (by simp only [List.length_map, List.length_append, o1.len, u0.len]; exact Nat.le_of_ble_eq_true rfl), fun p1 n1 => ?_⟩
    rw [← List.map_append]
    have e1 : upd J1 p1 (.lst ((as0 ++ bs1).map V.ref)) p1 = some (.lst ((as0 ++ bs1).map V.ref)) := upd_same
    have z1 : H p1 = none := (t0.trans x1).free n1
    have t1 := (t0.trans x1).trans (same_n (o := .lst ((as0 ++ bs1).map V.ref)) n1)
    have u1 := ((u0.same x1).app y1).same (same_n (o := .lst ((as0 ++ bs1).map V.ref)) n1)
    generalize upd J1 p1 (.lst ((as0 ++ bs1).map V.ref)) = G1 at e1 t1 u1
    refine ⟨.ref p1, rfl, ⟨rfl, rfl⟩, fun bs2 H2 m2 o2 => ⟨line_le (by rw [List.length_map, o2.len]; exact Nat.le_of_ble_eq_true rfl), fun r2 k2 => ?_⟩⟩
    have x2 := m2.trans (same_n (o := .lst (bs2.map V.ref)) k2)
    have y2 := o2.same (same_n (o := .lst (bs2.map V.ref)) k2)
    have w2 : upd H2 r2 (.lst (bs2.map V.ref)) r2 = some (.lst (bs2.map V.ref)) := upd_same
    generalize upd H2 r2 (.lst (bs2.map V.ref)) = J2 at x2 y2 w2
    refine ⟨p1, r2, _, _, rfl, rfl, x2 _ _ e1, w2, line_le (by simp only [List.length_map, List.length_append, o2.len, u1.len]; exact Nat.le_of_ble_eq_true rfl), fun p2 n2 => ?_⟩
    rw [← List.map_append]
    have e2 : upd J2 p2 (.lst (((as0 ++ bs1) ++ bs2).map V.ref)) p2 = some (.lst (((as0 ++ bs1) ++ bs2).map V.ref)) := upd_same
    have z2 : H p2 = none := (t1.trans x2).free n2
    have t2 := (t1.trans x2).trans (same_n (o := .lst (((as0 ++ bs1) ++ bs2).map V.ref)) n2)
    have u2 := ((u1.same x2).app y2).same (same_n (o := .lst (((as0 ++ bs1) ++ bs2).map V.ref)) n2)
    generalize upd J2 p2 (.lst (((as0 ++ bs1) ++ bs2).map V.ref)) = G2 at e2 t2 u2
    refine ⟨.ref p2, rfl, ⟨rfl, rfl⟩, fun bs3 H3 m3 o3 => ⟨line_le (by rw [List.length_map, o3.len]; exact Nat.le_of_ble_eq_true rfl), fun r3 k3 => ?_⟩⟩
    have x3 := m3.trans (same_n (o := .lst (bs3.map V.ref)) k3)
    have y3 := o3.same (same_n (o := .lst (bs3.map V.ref)) k3)
    have w3 : upd H3 r3 (.lst (bs3.map V.ref)) r3 = some (.lst (bs3.map V.ref)) := upd_same
    generalize upd H3 r3 (.lst (bs3.map V.ref)) = J3 at x3 y3 w3
    refine ⟨p2, r3, _, _, rfl, rfl, x3 _ _ e2, w3, line_le (by simp only [List.length_map, List.length_append, o3.len, u2.len]; exact Nat.le_of_ble_eq_true rfl), fun p3 n3 => ?_⟩
    rw [← List.map_append]
    have e3 : upd J3 p3 (.lst ((((as0 ++ bs1) ++ bs2) ++ bs3).map V.ref)) p3 = some (.lst ((((as0 ++ bs1) ++ bs2) ++ bs3).map V.ref)) := upd_same
    have z3 : H p3 = none := (t2.trans x3).free n3
    have t3 := (t2.trans x3).trans (same_n (o := .lst ((((as0 ++ bs1) ++ bs2) ++ bs3).map V.ref)) n3)
    have u3 := ((u2.same x3).app y3).same (same_n (o := .lst ((((as0 ++ bs1) ++ bs2) ++ bs3).map V.ref)) n3)
    generalize upd J3 p3 (.lst ((((as0 ++ bs1) ++ bs2) ++ bs3).map V.ref)) = G3 at e3 t3 u3
    exact q p3 (((as0 ++ bs1) ++ bs2) ++ bs3) G3 t3 z3 e3 u3
theorem ok_byn {f : Addr} {fd : FuncData} (F : Fun K "_law_by_name" "_law_by_name" sByN f fd) (e : Cls P w K mg base cA fA) : FnOk P w K mg base CX0 3 f fd ["_law_it", "_law_far"] (spMade cA) := by
  refine F.ok scByN (fun vs H Q E h => ?_) (fun cdv A outer s H vs Q E hr h => ?_)
  · obtain ⟨it, far, rfl, _⟩ := h
    rfl
  · obtain ⟨it, far, rfl, q⟩ := h
    let cond : L2.St → Prop := fun σ => σ[0]? = some (some it) ∧ σ[1]? = some (some far)
    let s0 : List (Addr × List (Str × V)) := [(cA 0, [("thing", it)]), (cA 1, [("thing", it)]), (cA 2, [("thing", it)]), (cA 3, [("thing", it)]), (cA 4, [("thing", it)])]
    let s1 : List (Addr × List (Str × V)) := [(cA 5, [("thing", it)]), (cA 6, [("thing", it)]), (cA 7, [("thing", it)]), (cA 8, [("thing", it)]), (cA 9, [("thing", it)])]
    let s2 : List (Addr × List (Str × V)) := [(cA 10, [("thing", it)]), (cA 11, [("thing", it)]), (cA 12, [("thing", it)]), (cA 13, [("thing", it)]), (cA 14, [("thing", it)])]
    let s3 : List (Addr × List (Str × V)) := [(cA 15, [("thing", it)]), (cA 16, [("thing", it)]), (cA 17, [("thing", it)]), (cA 18, [("thing", it)]), (cA 19, [("at", it)])]
    let s4 : List (Addr × List (Str × V)) := [(cA 20, [("at", it)]), (cA 21, [("most", it)]), (cA 22, [("c", it)]), (cA 23, [("n", far), ("wish", it)])]
    refine ⟨_, pss_cons (ps_set (i := 2) scByN.nd rfl (.inl rfl) (pe_lst (pa_ev_cons (pe_new1K e.c0 hr (pv 0) (fun _ c => c.1)) (pa_ev_cons (pe_new1K e.c1 hr (pv 0) (fun _ c => c.1)) (pa_ev_cons (pe_new1K e.c2 hr (pv 0) (fun _ c => c.1)) (pa_ev_cons (pe_new1K e.c3 hr (pv 0) (fun _ c => c.1)) (pa_ev_cons (pe_new1K e.c4 hr (pv 0) (fun _ c => c.1)) (pa_ev_nil (cond := cond)))))))))
      (pss_cons (ps_set (i := 2) scByN.nd rfl (.inl rfl) (pe_op op_cat (pv 2) (pe_lst (pa_ev_cons (pe_new1K e.c5 hr (pv 0) (fun _ c => c.1)) (pa_ev_cons (pe_new1K e.c6 hr (pv 0) (fun _ c => c.1)) (pa_ev_cons (pe_new1K e.c7 hr (pv 0) (fun _ c => c.1)) (pa_ev_cons (pe_new1K e.c8 hr (pv 0) (fun _ c => c.1)) (pa_ev_cons (pe_new1K e.c9 hr (pv 0) (fun _ c => c.1)) (pa_ev_nil (cond := cond))))))))))
      (pss_cons (ps_set (i := 2) scByN.nd rfl (.inl rfl) (pe_op op_cat (pv 2) (pe_lst (pa_ev_cons (pe_new1K e.c10 hr (pv 0) (fun _ c => c.1)) (pa_ev_cons (pe_new1K e.c11 hr (pv 0) (fun _ c => c.1)) (pa_ev_cons (pe_new1K e.c12 hr (pv 0) (fun _ c => c.1)) (pa_ev_cons (pe_new1K e.c13 hr (pv 0) (fun _ c => c.1)) (pa_ev_cons (pe_new1K e.c14 hr (pv 0) (fun _ c => c.1)) (pa_ev_nil (cond := cond))))))))))
      (pss_cons (ps_set (i := 2) scByN.nd rfl (.inl rfl) (pe_op op_cat (pv 2) (pe_lst (pa_ev_cons (pe_new1K e.c15 hr (pv 0) (fun _ c => c.1)) (pa_ev_cons (pe_new1K e.c16 hr (pv 0) (fun _ c => c.1)) (pa_ev_cons (pe_new1K e.c17 hr (pv 0) (fun _ c => c.1)) (pa_ev_cons (pe_new1K e.c18 hr (pv 0) (fun _ c => c.1)) (pa_ev_cons (pe_new1K e.c19 hr (pv 0) (fun _ c => c.1)) (pa_ev_nil (cond := cond))))))))))
      (pss_one (ps_ret (pe_op op_cat (pv 2) (pe_lst (pa_ev_cons (pe_new1K e.c20 hr (pv 0) (fun _ c => c.1)) (pa_ev_cons (pe_new1K e.c21 hr (pv 0) (fun _ c => c.1)) (pa_ev_cons (pe_new1K e.c22 hr (pv 0) (fun _ c => c.1)) (pa_ev_cons (pe_new2K e.c23 hr (pv 0) (pv 1) (fun _ c => c)) (pa_ev_nil (cond := cond))))))))))))), ?_⟩
    refine ⟨⟨rfl, rfl⟩, fun as0 H0 m0 o0 => ⟨line_le (by rw [List.length_map, o0.len]; exact Nat.le_of_ble_eq_true rfl), fun p0 n0 => ?_⟩⟩
    have e0 : upd H0 p0 (.lst (as0.map V.ref)) p0 = some (.lst (as0.map V.ref)) := upd_same
    have z0 : H p0 = none := m0.free n0
    have t0 := m0.trans (same_n (o := .lst (as0.map V.ref)) n0)
    have u0 := o0.same (same_n (o := .lst (as0.map V.ref)) n0)
    generalize upd H0 p0 (.lst (as0.map V.ref)) = G0 at e0 t0 u0
    refine ⟨.ref p0, rfl, ⟨rfl, rfl⟩, fun bs1 H1 m1 o1 => ⟨line_le (by rw [List.length_map, o1.len]; exact Nat.le_of_ble_eq_true rfl), fun r1 k1 => ?_⟩⟩
    have x1 := m1.trans (same_n (o := .lst (bs1.map V.ref)) k1)
    have y1 := o1.same (same_n (o := .lst (bs1.map V.ref)) k1)
    have w1 : upd H1 r1 (.lst (bs1.map V.ref)) r1 = some (.lst (bs1.map V.ref)) := upd_same
    generalize upd H1 r1 (.lst (bs1.map V.ref)) = J1 at x1 y1 w1
    refine ⟨p0, r1, _, _, rfl, rfl, x1 _ _ e0, w1, line_le (by simp only [List.length_map, List.length_append, o1.len, u0.len]; exact Nat.le_of_ble_eq_true rfl), fun p1 n1 => ?_⟩
    rw [← List.map_append]
    have e1 : upd J1 p1 (.lst ((as0 ++ bs1).map V.ref)) p1 = some (.lst ((as0 ++ bs1).map V.ref)) := upd_same
    have z1 : H p1 = none := (t0.trans x1).free n1
    have t1 := (t0.trans x1).trans (same_n (o := .lst ((as0 ++ bs1).map V.ref)) n1)
    have u1 := ((u0.same x1).app y1).same (same_n (o := .lst ((as0 ++ bs1).map V.ref)) n1)
    generalize upd J1 p1 (.lst ((as0 ++ bs1).map V.ref)) = G1 at e1 t1 u1
    refine ⟨.ref p1, rfl, ⟨rfl, rfl⟩, fun bs2 H2 m2 o2 => ⟨line_le (by rw [List.length_map, o2.len]; exact Nat.le_of_ble_eq_true rfl), fun r2 k2 => ?_⟩⟩
    have x2 := m2.trans (same_n (o := .lst (bs2.map V.ref)) k2)
    have y2 := o2.same (same_n (o := .lst (bs2.map V.ref)) k2)
    have w2 : upd H2 r2 (.lst (bs2.map V.ref)) r2 = some (.lst (bs2.map V.ref)) := upd_same
    generalize upd H2 r2 (.lst (bs2.map V.ref)) = J2 at x2 y2 w2
    refine ⟨p1, r2, _, _, rfl, rfl, x2 _ _ e1, w2, line_le (by simp only [List.length_map, List.length_append, o2.len, u1.len]; exact Nat.le_of_ble_eq_true rfl), fun p2 n2 => ?_⟩
    rw [← List.map_append]
    have e2 : upd J2 p2 (.lst (((as0 ++ bs1) ++ bs2).map V.ref)) p2 = some (.lst (((as0 ++ bs1) ++ bs2).map V.ref)) := upd_same
    have z2 : H p2 = none := (t1.trans x2).free n2
    have t2 := (t1.trans x2).trans (same_n (o := .lst (((as0 ++ bs1) ++ bs2).map V.ref)) n2)
    have u2 := ((u1.same x2).app y2).same (same_n (o := .lst (((as0 ++ bs1) ++ bs2).map V.ref)) n2)
    generalize upd J2 p2 (.lst (((as0 ++ bs1) ++ bs2).map V.ref)) = G2 at e2 t2 u2
    refine ⟨.ref p2, rfl, ⟨rfl, rfl⟩, fun bs3 H3 m3 o3 => ⟨line_le (by rw [List.length_map, o3.len]; exact Nat.le_of_ble_eq_true rfl), fun r3 k3 => ?_⟩⟩
    have x3 := m3.trans (same_n (o := .lst (bs3.map V.ref)) k3)
    have y3 := o3.same (same_n (o := .lst (bs3.map V.ref)) k3)
    have w3 : upd H3 r3 (.lst (bs3.map V.ref)) r3 = some (.lst (bs3.map V.ref)) := upd_same
    generalize upd H3 r3 (.lst (bs3.map V.ref)) = J3 at x3 y3 w3
    refine ⟨p2, r3, _, _, rfl, rfl, x3 _ _ e2, w3, line_le (by simp only [List.length_map, List.length_append, o3.len, u2.len]; exact Nat.le_of_ble_eq_true rfl), fun p3 n3 => ?_⟩
    rw [← List.map_append]
    have e3 : upd J3 p3 (.lst ((((as0 ++ bs1) ++ bs2) ++ bs3).map V.ref)) p3 = some (.lst ((((as0 ++ bs1) ++ bs2) ++ bs3).map V.ref)) := upd_same
    have z3 : H p3 = none := (t2.trans x3).free n3
    have t3 := (t2.trans x3).trans (same_n (o := .lst ((((as0 ++ bs1) ++ bs2) ++ bs3).map V.ref)) n3)
    have u3 := ((u2.same x3).app y3).same (same_n (o := .lst ((((as0 ++ bs1) ++ bs2) ++ bs3).map V.ref)) n3)
    generalize upd J3 p3 (.lst ((((as0 ++ bs1) ++ bs2) ++ bs3).map V.ref)) = G3 at e3 t3 u3
    refine ⟨.ref p3, rfl, ⟨rfl, rfl⟩, fun bs4 H4 m4 o4 => ⟨line_le (by rw [List.length_map, o4.len]; exact Nat.le_of_ble_eq_true rfl), fun r4 k4 => ?_⟩⟩
    have x4 := m4.trans (same_n (o := .lst (bs4.map V.ref)) k4)
    have y4 := o4.same (same_n (o := .lst (bs4.map V.ref)) k4)
    have w4 : upd H4 r4 (.lst (bs4.map V.ref)) r4 = some (.lst (bs4.map V.ref)) := upd_same
    generalize upd H4 r4 (.lst (bs4.map V.ref)) = J4 at x4 y4 w4
    refine ⟨p3, r4, _, _, rfl, rfl, x4 _ _ e3, w4, line_le (by simp only [List.length_map, List.length_append, o4.len, u3.len]; exact Nat.le_of_ble_eq_true rfl), fun p4 n4 => ?_⟩
    rw [← List.map_append]
    have e4 : upd J4 p4 (.lst (((((as0 ++ bs1) ++ bs2) ++ bs3) ++ bs4).map V.ref)) p4 = some (.lst (((((as0 ++ bs1) ++ bs2) ++ bs3) ++ bs4).map V.ref)) := upd_same
    have z4 : H p4 = none := (t3.trans x4).free n4
    have t4 := (t3.trans x4).trans (same_n (o := .lst (((((as0 ++ bs1) ++ bs2) ++ bs3) ++ bs4).map V.ref)) n4)
    have u4 := ((u3.same x4).app y4).same (same_n (o := .lst (((((as0 ++ bs1) ++ bs2) ++ bs3) ++ bs4).map V.ref)) n4)
    generalize upd J4 p4 (.lst (((((as0 ++ bs1) ++ bs2) ++ bs3) ++ bs4).map V.ref)) = G4 at e4 t4 u4
    exact q p4 ((((as0 ++ bs1) ++ bs2) ++ bs3) ++ bs4) G4 t4 z4 e4 u4
end
end K0
end

section
set_option maxHeartbeats 8000000
namespace K0
open PySem PySem.Spec PyProof.Rows L2 KD
section
variable {P : Program} {w : World} {K : PySem.W.Frag} {mg : Str → Option Value} {base : Heap} {cA fA : Nat → Addr}
theorem specs_thing {it far : V} {i : Nat} (h : i < 19) : (specs cA it far)[i]? = some (cA i, [(("thing" : Str), it)]) := by
  have z : i = 0 ∨ i = 1 ∨ i = 2 ∨ i = 3 ∨ i = 4 ∨ i = 5 ∨ i = 6 ∨ i = 7 ∨ i = 8 ∨ i = 9 ∨ i = 10 ∨ i = 11 ∨ i = 12 ∨ i = 13 ∨ i = 14 ∨ i = 15 ∨ i = 16 ∨ i = 17 ∨ i = 18 := by omega
  rcases z with rfl | rfl | rfl | rfl | rfl | rfl | rfl | rfl | rfl | rfl | rfl | rfl | rfl | rfl | rfl | rfl | rfl | rfl | rfl <;> rfl
theorem Cls.ec (e : Cls P w K mg base cA fA) {i : Nat} (h : i < 29) : EC K (cA i) (fA i) := by
  have z : i = 0 ∨ i = 1 ∨ i = 2 ∨ i = 3 ∨ i = 4 ∨ i = 5 ∨ i = 6 ∨ i = 7 ∨ i = 8 ∨ i = 9 ∨ i = 10 ∨ i = 11 ∨ i = 12 ∨ i = 13 ∨ i = 14 ∨ i = 15 ∨ i = 16 ∨ i = 17 ∨ i = 18 ∨ i = 19 ∨ i = 20 ∨ i = 21 ∨ i = 22 ∨ i = 23 ∨ i = 24 ∨ i = 25 ∨ i = 26 ∨ i = 27 ∨ i = 28 := by omega
  rcases z with rfl | rfl | rfl | rfl | rfl | rfl | rfl | rfl | rfl | rfl | rfl | rfl | rfl | rfl | rfl | rfl | rfl | rfl | rfl | rfl | rfl | rfl | rfl | rfl | rfl | rfl | rfl | rfl | rfl
  · exact e.c0.ec
  · exact e.c1.ec
  · exact e.c2.ec
  · exact e.c3.ec
  · exact e.c4.ec
  · exact e.c5.ec
  · exact e.c6.ec
  · exact e.c7.ec
  · exact e.c8.ec
  · exact e.c9.ec
  · exact e.c10.ec
  · exact e.c11.ec
  · exact e.c12.ec
  · exact e.c13.ec
  · exact e.c14.ec
  · exact e.c15.ec
  · exact e.c16.ec
  · exact e.c17.ec
  · exact e.c18.ec
  · exact e.c19.ec
  · exact e.c20.ec
  · exact e.c21.ec
  · exact e.c22.ec
  · exact e.c23.ec
  · exact e.c24.ec
  · exact e.c25.ec
  · exact e.c26.ec
  · exact e.c27.ec
  · exact e.c28.ec
theorem Cls.free (e : Cls P w K mg base cA fA) {i : Nat} (h : i < 19) : PySem.W.findIn K (.ref (cA i)) "thing" = some none := by
  have z : i = 0 ∨ i = 1 ∨ i = 2 ∨ i = 3 ∨ i = 4 ∨ i = 5 ∨ i = 6 ∨ i = 7 ∨ i = 8 ∨ i = 9 ∨ i = 10 ∨ i = 11 ∨ i = 12 ∨ i = 13 ∨ i = 14 ∨ i = 15 ∨ i = 16 ∨ i = 17 ∨ i = 18 := by omega
  rcases z with rfl | rfl | rfl | rfl | rfl | rfl | rfl | rfl | rfl | rfl | rfl | rfl | rfl | rfl | rfl | rfl | rfl | rfl | rfl
  · exact e.c0.free
  · exact e.c1.free
  · exact e.c2.free
  · exact e.c3.free
  · exact e.c4.free
  · exact e.c5.free
  · exact e.c6.free
  · exact e.c7.free
  · exact e.c8.free
  · exact e.c9.free
  · exact e.c10.free
  · exact e.c11.free
  · exact e.c12.free
  · exact e.c13.free
  · exact e.c14.free
  · exact e.c15.free
  · exact e.c16.free
  · exact e.c17.free
  · exact e.c18.free
abbrev sCar : Stmt := topS 38
abbrev nCar : List Str := ["_law_made", "_law_found", "_law_error"]
theorem scCar : FnScope nCar ["_law_made"] (defScope sCar) := ⟨rfl, rfl, rfl, by decide +kernel, rfl, by decide +kernel, by decide +kernel⟩
theorem cut_take {xs : List V} {k : Nat} (h : k ≤ xs.length) : cutV xs none (some (k : Int)) = xs.take k := by
  unfold cutV
  rw [HT.sIx_none, HT.sIx_nat, Nat.min_eq_left h, List.drop_zero, Nat.sub_zero]
def spCar (cA : Nat → Addr) : Sp := fun vs H Q _ => ∃ (p : Addr) (as : List Addr) (it far : V), vs = [.ref p] ∧ H p = some (.lst (as.map V.ref)) ∧ ObjL H as (specs cA it far) ∧
  ∀ q H', Same H H' → H q = none → H' q = some (.lst (List.replicate 24 it)) → Q (.ref q) H'
theorem ok_car {f : Addr} {fd : FuncData} (F : Fun K "_law_carried" "_law_carried" sCar f fd) (e : Cls P w K mg base cA fA) : FnOk P w K mg base CX0 1 f fd ["_law_made"] (spCar cA) := by
  refine F.ok scCar (fun vs H Q E h => ?_) (fun cdv A outer s H vs Q E hr h => ?_)
  · obtain ⟨_, _, _, _, rfl, _⟩ := h
    rfl
  · obtain ⟨p, as, it, far, rfl, ep, oL, q⟩ := h
    have nd := scCar.nd
    have l24 : as.length = 24 := oL.len
    refine ⟨_, pss_cons (ps_set (i := 1) nd rfl (.inl rfl) (pe_op op_cat
        (pe_lc (own := [("_law_error", 2)]) (g := gName 2) (tt := tYes) (te := tEf K "thing" (tVar 2)) rfl nd (pi_list (pe_slice sl_list (pv 0) po_none (po_some pe_int))) (blkOk_by (N := nCar) (sc := defScope sCar) (by decide +kernel))
          (fun _ _ _ _ _ => pg_name (i := 2) nd rfl (Or.inl rfl)) (fun _ _ _ _ _ => pts_nil) (fun _ _ _ _ _ => pe_ef (pv 2)))
        (pe_lst (pa_cons (pe_ef (pe_ix ix_list (pv 0) pe_int (fun _ _ => rfl))) (pa_cons (pe_ef (pe_ix ix_list (pv 0) pe_int (fun _ _ => rfl))) (pa_cons (pe_ef (pe_ix ix_list (pv 0) pe_int (fun _ _ => rfl))) pa_nil))))))
      (pss_one (ps_ret (pe_op op_cat (pv 1) (pe_lst (pa_cons (pe_ef (pe_ix ix_list (pv 0) pe_int (fun _ _ => rfl))) (pa_cons (pe_ef (pe_ix ix_list (pv 0) pe_int (fun _ _ => rfl))) pa_nil)))))), ?_⟩
    refine ⟨.ref p, rfl, 19, rfl, p, _, rfl, .inl (.inl ep), fun c nc => ?_⟩
    have ec : cutV (as.map V.ref) none (some 19) = (as.take 19).map V.ref := by
      rw [show (some (19 : Int)) = some ((19 : Nat) : Int) from rfl, cut_take (by rw [List.length_map]; omega), List.map_take]
    rw [ec]
    have x1 : upd H c (.lst ((as.take 19).map V.ref)) c = some (.lst ((as.take 19).map V.ref)) := upd_same
    have m1 : Same H (upd H c (.lst ((as.take 19).map V.ref))) := same_n nc
    generalize upd H c (.lst ((as.take 19).map V.ref)) = H1 at x1 m1
    refine ⟨c, rfl, ⟨_, .inl (.inl x1)⟩, fun L nL => ?_⟩
    refine lc_list (xs := (as.take 19).map V.ref) (fun i H3 => Same H1 H3 ∧ H3 L = some (.lst (List.replicate i it))) ⟨same_n nL, upd_same⟩ ?_ ?_ ?_
    · rintro i H3 _ ⟨m3, _⟩
      exact .inl (.inl (m3 _ _ x1))
    · rintro i x H3 hx ⟨m3, e3⟩
      have hi : i < 19 := by
        have z := (List.getElem?_eq_some_iff.mp hx).1
        rw [List.length_map, List.length_take] at z
        omega
      obtain ⟨a, ea, rfl⟩ : ∃ a, as[i]? = some a ∧ x = .ref a := by
        rw [List.getElem?_map, List.getElem?_take_of_lt hi] at hx
        cases z : as[i]? with
        | none => rw [z] at hx; cases hx
        | some a => rw [z] at hx; cases hx; exact ⟨a, rfl, rfl⟩
      obtain ⟨d, e1, e2⟩ := oL.get ea (specs_thing hi)
      refine ⟨rfl, ?_⟩
      rw [yes_eq, if_pos rfl]
      refine ⟨.ref a, rfl, a, cA i, fA i, d, _, it, rfl, e.ec (by omega), e.free hi, m3 _ _ (m1 _ _ e1), m3 _ _ (m1 _ _ e2), by rfl, List.replicate i it, e3, ?_, ?_, ?_⟩
      · rw [List.length_replicate]
        exact Nat.lt_of_lt_of_le hi (by decide)
      · intro b o eb
        rw [upd_ne (ne_of_none eb nL)]
        exact m3 b o eb
      · rw [upd_same, List.replicate_succ']
    · rintro H3 ⟨m3, e3⟩
      rw [List.length_map, List.length_take, l24] at e3
      replace e3 : H3 L = some (.lst (List.replicate 19 it)) := e3
      have m13 := m1.trans m3
      obtain ⟨a19, b19, d19, g19, h19⟩ : ∃ a d, as[19]? = some a ∧ H a = some (exo a (cA 19) (some d)) ∧ H d = some (exd d [(("at" : Str), it)]) := by
        have z := List.getElem?_eq_getElem (l := as) (i := 19) (by omega)
        obtain ⟨d, e1, e2⟩ := oL.get z rfl
        exact ⟨_, d, z, e1, e2⟩
      obtain ⟨a20, b20, d20, g20, h20⟩ : ∃ a d, as[20]? = some a ∧ H a = some (exo a (cA 20) (some d)) ∧ H d = some (exd d [(("at" : Str), it)]) := by
        have z := List.getElem?_eq_getElem (l := as) (i := 20) (by omega)
        obtain ⟨d, e1, e2⟩ := oL.get z rfl
        exact ⟨_, d, z, e1, e2⟩
      obtain ⟨a21, b21, d21, g21, h21⟩ : ∃ a d, as[21]? = some a ∧ H a = some (exo a (cA 21) (some d)) ∧ H d = some (exd d [(("most" : Str), it)]) := by
        have z := List.getElem?_eq_getElem (l := as) (i := 21) (by omega)
        obtain ⟨d, e1, e2⟩ := oL.get z rfl
        exact ⟨_, d, z, e1, e2⟩
      obtain ⟨a22, b22, d22, g22, h22⟩ : ∃ a d, as[22]? = some a ∧ H a = some (exo a (cA 22) (some d)) ∧ H d = some (exd d [(("c" : Str), it)]) := by
        have z := List.getElem?_eq_getElem (l := as) (i := 22) (by omega)
        obtain ⟨d, e1, e2⟩ := oL.get z rfl
        exact ⟨_, d, z, e1, e2⟩
      obtain ⟨a23, b23, d23, g23, h23⟩ : ∃ a d, as[23]? = some a ∧ H a = some (exo a (cA 23) (some d)) ∧ H d = some (exd d [(("n" : Str), far), ("wish", it)]) := by
        have z := List.getElem?_eq_getElem (l := as) (i := 23) (by omega)
        obtain ⟨d, e1, e2⟩ := oL.get z rfl
        exact ⟨_, d, z, e1, e2⟩
      have at_ : ∀ {i : Nat} {a : Addr}, as[i]? = some a → atI (as.map V.ref) (i : Int) = some (.ref a) := fun {i a} z => atI_nat (by rw [List.getElem?_map, z]; rfl)
      refine ⟨.ref p, rfl, p, _, 19, .ref a19, rfl, rfl, .inl (.inl (m13 _ _ ep)), at_ d19, a19, cA 19, fA 19, b19, _, it, rfl, e.c19.ec, e.c19.free, m13 _ _ g19, m13 _ _ h19, by rfl, .ref p, rfl, p, _, 20, .ref a20, rfl, rfl, .inl (.inl (m13 _ _ ep)), at_ d20, a20, cA 20, fA 20, b20, _, it, rfl, e.c20.ec, e.c20.free, m13 _ _ g20, m13 _ _ h20, by rfl, .ref p, rfl, p, _, 21, .ref a21, rfl, rfl, .inl (.inl (m13 _ _ ep)), at_ d21, a21, cA 21, fA 21, b21, _, it, rfl, e.c21.ec, e.c21.free, m13 _ _ g21, m13 _ _ h21, by rfl, line_le (by show 3 ≤ 1000; decide), fun r kr => ?_⟩
      have m4 := m13.trans (same_n (o := .lst [it, it, it]) kr)
      have w4 : upd H3 r (.lst [it, it, it]) r = some (.lst [it, it, it]) := upd_same
      have v4 := upd_at (o := .lst [it, it, it]) kr e3
      generalize upd H3 r (.lst [it, it, it]) = H4 at m4 w4 v4
      refine ⟨L, r, _, _, rfl, rfl, v4, w4, line_le (by rw [List.length_replicate]; exact Nat.le_of_ble_eq_true rfl), fun s ks => ?_⟩
      have m5 := m4.trans (same_n (o := .lst (List.replicate 19 it ++ [it, it, it])) ks)
      have w5 : upd H4 s (.lst (List.replicate 19 it ++ [it, it, it])) s = some (.lst (List.replicate 22 it)) := upd_same
      generalize upd H4 s (.lst (List.replicate 19 it ++ [it, it, it])) = H5 at m5 w5
      refine ⟨.ref s, rfl, .ref p, rfl, p, _, 22, .ref a22, rfl, rfl, .inl (.inl (m5 _ _ ep)), at_ d22, a22, cA 22, fA 22, b22, _, it, rfl, e.c22.ec, e.c22.free, m5 _ _ g22, m5 _ _ h22, by rfl, .ref p, rfl, p, _, 23, .ref a23, rfl, rfl, .inl (.inl (m5 _ _ ep)), at_ d23, a23, cA 23, fA 23, b23, _, it, rfl, e.c23.ec, e.c23.free, m5 _ _ g23, m5 _ _ h23, by rfl, line_le (by show 2 ≤ 1000; decide), fun t kt => ?_⟩
      have m6 := m5.trans (same_n (o := .lst [it, it]) kt)
      have w6 : upd H5 t (.lst [it, it]) t = some (.lst [it, it]) := upd_same
      have v6 := upd_at (o := .lst [it, it]) kt w5
      generalize upd H5 t (.lst [it, it]) = H6 at m6 w6 v6
      refine ⟨s, t, _, _, rfl, rfl, v6, w6, line_le (by rw [List.length_replicate]; exact Nat.le_of_ble_eq_true rfl), fun z kz => ?_⟩
      exact q z _ (m6.trans (same_n kz)) (m6.free kz) upd_same
end
end K0
end

section
set_option maxHeartbeats 8000000
namespace K0
open PySem PySem.Spec PyProof.Rows L2 KD
/-! ### isinstance of what was made -/
abbrev sixT : List Value := [.type "ValueError", .type "TypeError", .type "LookupError", .type "ArithmeticError", .type "RuntimeError", .type "AttributeError"]
structure Kit (K : PySem.W.Frag) (mg : Str → Option Value) (cA : Nat → Addr) (G : Addr) : Prop where
  cd : CD K
  gG : mg "GardenError" = some (.ref G)
  kit : ∀ i j, i < 29 → j < 29 → PySem.W.kitOne K (.ref (cA i)) (.ref (cA j)) = some (decide (i = j))
  kitG : ∀ i, i < 29 → PySem.W.kitOne K (.ref (cA i)) (.ref G) = some true
  kitE : ∀ i, i < 29 → PySem.W.kitOne K (.ref (cA i)) (.type "Exception") = some true
  kitN : ∀ i, i < 29 → PySem.W.kitAny K (.ref (cA i)) sixT = some false
  exm : ∀ i j, i < 29 → j < 29 → PySem.W.exmOne K (.ref (cA i)) (.ref (cA j)) = some (decide (i = j))
  exmG : ∀ i, i < 29 → PySem.W.exmOne K (.ref (cA i)) (.ref G) = some true
/-- an instance of C, with or without a dict -/
def EvO (H : Hp) (a C : Addr) : Prop := ∃ d : Option Addr, H a = some (exo a C d) ∧ ∀ dd, d = some dd → ∃ fs, H dd = some (exd dd fs)
theorem EvO.same {H H' : Hp} {a C : Addr} (e : EvO H a C) (s : Same H H') : EvO H' a C := by
  obtain ⟨d, e1, e2⟩ := e
  exact ⟨d, s _ _ e1, fun dd h => let ⟨fs, z⟩ := e2 dd h; ⟨fs, s _ _ z⟩⟩
theorem EvO.of {H : Hp} {a C : Addr} {fs : List (Str × V)} (h : Obj1 H a C fs) : EvO H a C := by
  obtain ⟨d, e1, e2⟩ := h
  exact ⟨some d, e1, fun dd z => by cases z; exact ⟨_, e2⟩⟩
def tVal (cond : L2.St → Hp → Prop) (v : V) : TE := fun σ H Q => cond σ H ∧ Q v H
def tVals (cond : L2.St → Hp → Prop) (vs : List V) : TA := fun σ H Q => cond σ H ∧ Q vs H
section
variable {X : Cx} {p p1 p2 pos : Pos} {n1 n2 : Str} {a C fI C2 : Addr} {b : Bool} {cond : L2.St → Hp → Prop} {i : Nat}
theorem pe_isi (hm : X.mg "isinstance" = none) (T : EC X.K C fI) (D : CD X.K) (h1 : PE X (.Name n1 p1) (tVar i)) (h2 : X.mg n2 = some (.ref C2)) (k : PySem.W.kitOne X.K (.ref C) (.ref C2) = some b) (hc : ∀ σ H, cond σ H → σ[i]? = some (some (.ref a)) ∧ EvO H a C)
    (hg : Gl X "isinstance" := by rfl) (hg2 : Gl X n2 := by rfl) (hd2 : (n2 == ("__debug__" : Str)) = false := by decide) : PE X (.Call (.Name "isinstance" p) [.Name n1 p1, .Name n2 p2] [] pos) (tVal cond (.bl b)) := by
  refine pe_imp (pe_callB (call_isV) hg hm PyProof.Rows.boot_isinstance (pa_cons h1 (pa_cons (pe_glob hg2 h2 (v := .ref C2) rfl hd2) pa_nil))) fun σ H Q h => ?_
  obtain ⟨c, q⟩ := h
  obtain ⟨z1, d, e1, e2⟩ := hc σ H c
  exact ⟨.ref a, z1, a, C, fI, d, .ref C2, .ref C2, b, rfl, T, D, e1, e2, .own C2, k, q⟩
theorem pe_isiB {n : String} (hm : X.mg "isinstance" = none) (T : EC X.K C fI) (D : CD X.K) (h1 : PE X (.Name n1 p1) (tVar i)) (h2 : PE X (.Name n2 p2) (tC (.ty n))) (k : PySem.W.kitOne X.K (.ref C) (.type n) = some b) (hc : ∀ σ H, cond σ H → σ[i]? = some (some (.ref a)) ∧ EvO H a C)
    (hg : Gl X "isinstance" := by rfl) : PE X (.Call (.Name "isinstance" p) [.Name n1 p1, .Name n2 p2] [] pos) (tVal cond (.bl b)) := by
  refine pe_imp (pe_callB (call_isV) hg hm PyProof.Rows.boot_isinstance (pa_cons h1 (pa_cons h2 pa_nil))) fun σ H Q h => ?_
  obtain ⟨c, q⟩ := h
  obtain ⟨z1, d, e1, e2⟩ := hc σ H c
  exact ⟨.ref a, z1, a, C, fI, d, .ty n, .type n, b, rfl, T, D, e1, e2, .ty n, k, q⟩
end
section
variable {X : Cx} {e : Expr} {es : List Expr} {cond : L2.St → Hp → Prop} {v : V} {vs : List V}
theorem pa_val_nil : PA X [] (tVals cond []) := pa_imp pa_nil fun σ H Q h => h.2
theorem pa_val_cons (h : PE X e (tVal cond v)) (r : PA X es (tVals cond vs)) (hs : starEach (e :: es) X.env = (false, eval e X.env) :: starEach es X.env := by rfl) : PA X (e :: es) (tVals cond (v :: vs)) :=
  pa_imp (pa_cons h r hs) fun σ H Q h => ⟨h.1, h.1, h.2⟩
end
abbrev sCls : Stmt := topS 39
abbrev sOwn : Stmt := topS 40
theorem scCls : FnScope ["_law_error", "_law_found"] ["_law_error"] (defScope sCls) := ⟨rfl, rfl, rfl, by decide +kernel, rfl, by decide +kernel, by decide +kernel⟩
abbrev nOwn : List Str := ["_law_at", "_law_error", "_law_place"]
theorem scOwn : FnScope nOwn ["_law_at", "_law_error"] (defScope sOwn) := ⟨rfl, rfl, rfl, by decide +kernel, rfl, by decide +kernel, by decide +kernel⟩
section
variable {P : Program} {w : World} {K : PySem.W.Frag} {mg : Str → Option Value} {base : Heap} {cA fA : Nat → Addr} {G : Addr}
def yes (i : Nat) : List V := (List.range 29).map fun j => V.bl (decide (i = j))
def spCls (cA : Nat → Addr) : Sp := fun vs H Q _ => ∃ (a : Addr) (i : Nat), vs = [.ref a] ∧ i < 29 ∧ EvO H a (cA i) ∧ ∀ p H', Same H H' → H p = none → H' p = some (.lst (yes i)) → Q (.ref p) H'
theorem ok_cls {f : Addr} {fd : FuncData} (F : Fun K "_law_classes" "_law_classes" sCls f fd) (e : Cls P w K mg base cA fA) (k : Kit K mg cA G) (mi : mg "isinstance" = none) : FnOk P w K mg base CX0 1 f fd ["_law_error"] (spCls cA) := by
  refine F.ok scCls (fun vs H Q E h => ?_) (fun cdv A outer s H vs Q E hr h => ?_)
  · obtain ⟨_, _, rfl, _⟩ := h
    rfl
  · obtain ⟨a, i, rfl, hi, eo, q⟩ := h
    have T := e.ec hi
    let cond : L2.St → Hp → Prop := fun σ H => σ[0]? = some (some (.ref a)) ∧ EvO H a (cA i)
    refine ⟨_, pss_cons (ps_set (i := 1) scCls.nd rfl (.inl rfl) (pe_lst (pa_val_cons (pe_isi mi T k.cd (pv 0) e.c0.g (k.kit i 0 hi (by decide)) (fun _ _ c => c)) (pa_val_cons (pe_isi mi T k.cd (pv 0) e.c1.g (k.kit i 1 hi (by decide)) (fun _ _ c => c)) (pa_val_cons (pe_isi mi T k.cd (pv 0) e.c2.g (k.kit i 2 hi (by decide)) (fun _ _ c => c)) (pa_val_nil (cond := cond)))))))
      (pss_cons (ps_set (i := 1) scCls.nd rfl (.inl rfl) (pe_op op_cat (pv 1) (pe_lst (pa_val_cons (pe_isi mi T k.cd (pv 0) e.c3.g (k.kit i 3 hi (by decide)) (fun _ _ c => c)) (pa_val_cons (pe_isi mi T k.cd (pv 0) e.c4.g (k.kit i 4 hi (by decide)) (fun _ _ c => c)) (pa_val_cons (pe_isi mi T k.cd (pv 0) e.c5.g (k.kit i 5 hi (by decide)) (fun _ _ c => c)) (pa_val_nil (cond := cond))))))))
      (pss_cons (ps_set (i := 1) scCls.nd rfl (.inl rfl) (pe_op op_cat (pv 1) (pe_lst (pa_val_cons (pe_isi mi T k.cd (pv 0) e.c6.g (k.kit i 6 hi (by decide)) (fun _ _ c => c)) (pa_val_cons (pe_isi mi T k.cd (pv 0) e.c7.g (k.kit i 7 hi (by decide)) (fun _ _ c => c)) (pa_val_cons (pe_isi mi T k.cd (pv 0) e.c8.g (k.kit i 8 hi (by decide)) (fun _ _ c => c)) (pa_val_nil (cond := cond))))))))
      (pss_cons (ps_set (i := 1) scCls.nd rfl (.inl rfl) (pe_op op_cat (pv 1) (pe_lst (pa_val_cons (pe_isi mi T k.cd (pv 0) e.c9.g (k.kit i 9 hi (by decide)) (fun _ _ c => c)) (pa_val_cons (pe_isi mi T k.cd (pv 0) e.c10.g (k.kit i 10 hi (by decide)) (fun _ _ c => c)) (pa_val_cons (pe_isi mi T k.cd (pv 0) e.c11.g (k.kit i 11 hi (by decide)) (fun _ _ c => c)) (pa_val_nil (cond := cond))))))))
      (pss_cons (ps_set (i := 1) scCls.nd rfl (.inl rfl) (pe_op op_cat (pv 1) (pe_lst (pa_val_cons (pe_isi mi T k.cd (pv 0) e.c12.g (k.kit i 12 hi (by decide)) (fun _ _ c => c)) (pa_val_cons (pe_isi mi T k.cd (pv 0) e.c13.g (k.kit i 13 hi (by decide)) (fun _ _ c => c)) (pa_val_cons (pe_isi mi T k.cd (pv 0) e.c14.g (k.kit i 14 hi (by decide)) (fun _ _ c => c)) (pa_val_nil (cond := cond))))))))
      (pss_cons (ps_set (i := 1) scCls.nd rfl (.inl rfl) (pe_op op_cat (pv 1) (pe_lst (pa_val_cons (pe_isi mi T k.cd (pv 0) e.c15.g (k.kit i 15 hi (by decide)) (fun _ _ c => c)) (pa_val_cons (pe_isi mi T k.cd (pv 0) e.c16.g (k.kit i 16 hi (by decide)) (fun _ _ c => c)) (pa_val_cons (pe_isi mi T k.cd (pv 0) e.c17.g (k.kit i 17 hi (by decide)) (fun _ _ c => c)) (pa_val_nil (cond := cond))))))))
      (pss_cons (ps_set (i := 1) scCls.nd rfl (.inl rfl) (pe_op op_cat (pv 1) (pe_lst (pa_val_cons (pe_isi mi T k.cd (pv 0) e.c18.g (k.kit i 18 hi (by decide)) (fun _ _ c => c)) (pa_val_cons (pe_isi mi T k.cd (pv 0) e.c19.g (k.kit i 19 hi (by decide)) (fun _ _ c => c)) (pa_val_cons (pe_isi mi T k.cd (pv 0) e.c20.g (k.kit i 20 hi (by decide)) (fun _ _ c => c)) (pa_val_nil (cond := cond))))))))
      (pss_cons (ps_set (i := 1) scCls.nd rfl (.inl rfl) (pe_op op_cat (pv 1) (pe_lst (pa_val_cons (pe_isi mi T k.cd (pv 0) e.c21.g (k.kit i 21 hi (by decide)) (fun _ _ c => c)) (pa_val_cons (pe_isi mi T k.cd (pv 0) e.c22.g (k.kit i 22 hi (by decide)) (fun _ _ c => c)) (pa_val_cons (pe_isi mi T k.cd (pv 0) e.c23.g (k.kit i 23 hi (by decide)) (fun _ _ c => c)) (pa_val_nil (cond := cond))))))))
      (pss_cons (ps_set (i := 1) scCls.nd rfl (.inl rfl) (pe_op op_cat (pv 1) (pe_lst (pa_val_cons (pe_isi mi T k.cd (pv 0) e.c24.g (k.kit i 24 hi (by decide)) (fun _ _ c => c)) (pa_val_cons (pe_isi mi T k.cd (pv 0) e.c25.g (k.kit i 25 hi (by decide)) (fun _ _ c => c)) (pa_val_cons (pe_isi mi T k.cd (pv 0) e.c26.g (k.kit i 26 hi (by decide)) (fun _ _ c => c)) (pa_val_nil (cond := cond))))))))
      (pss_one (ps_ret (pe_op op_cat (pv 1) (pe_lst (pa_val_cons (pe_isi mi T k.cd (pv 0) e.c27.g (k.kit i 27 hi (by decide)) (fun _ _ c => c)) (pa_val_cons (pe_isi mi T k.cd (pv 0) e.c28.g (k.kit i 28 hi (by decide)) (fun _ _ c => c)) (pa_val_nil (cond := cond)))))))))))))))), ?_⟩
    refine ⟨⟨rfl, eo⟩, line_le (by show 3 ≤ 1000; decide), fun p0 n0 => ?_⟩
    have e0 : upd H p0 (.lst [V.bl (decide (i = 0)), V.bl (decide (i = 1)), V.bl (decide (i = 2))]) p0 = some (.lst ((List.range 3).map fun j => V.bl (decide (i = j)))) := upd_same
    have t0 := same_n (o := .lst [V.bl (decide (i = 0)), V.bl (decide (i = 1)), V.bl (decide (i = 2))]) n0
    have z0 := n0
    generalize upd H p0 (.lst [V.bl (decide (i = 0)), V.bl (decide (i = 1)), V.bl (decide (i = 2))]) = G0 at e0 t0
    refine ⟨.ref p0, rfl, ⟨rfl, eo.same t0⟩, line_le (by show 3 ≤ 1000; decide), fun r1 k1 => ?_⟩
    have x1 := same_n (o := .lst [V.bl (decide (i = 3)), V.bl (decide (i = 4)), V.bl (decide (i = 5))]) k1
    have w1 : upd G0 r1 (.lst [V.bl (decide (i = 3)), V.bl (decide (i = 4)), V.bl (decide (i = 5))]) r1 = some (.lst [V.bl (decide (i = 3)), V.bl (decide (i = 4)), V.bl (decide (i = 5))]) := upd_same
    generalize upd G0 r1 (.lst [V.bl (decide (i = 3)), V.bl (decide (i = 4)), V.bl (decide (i = 5))]) = J1 at x1 w1
    refine ⟨p0, r1, _, _, rfl, rfl, x1 _ _ e0, w1, line_le (by show 6 ≤ 1000; decide), fun p1 n1 => ?_⟩
    have e1 : upd J1 p1 (.lst (((List.range 3).map fun j => V.bl (decide (i = j))) ++ [V.bl (decide (i = 3)), V.bl (decide (i = 4)), V.bl (decide (i = 5))])) p1 = some (.lst ((List.range 6).map fun j => V.bl (decide (i = j)))) := upd_same
    have z1 : H p1 = none := (t0.trans x1).free n1
    have t1 := (t0.trans x1).trans (same_n (o := .lst (((List.range 3).map fun j => V.bl (decide (i = j))) ++ [V.bl (decide (i = 3)), V.bl (decide (i = 4)), V.bl (decide (i = 5))])) n1)
    generalize upd J1 p1 (.lst (((List.range 3).map fun j => V.bl (decide (i = j))) ++ [V.bl (decide (i = 3)), V.bl (decide (i = 4)), V.bl (decide (i = 5))])) = G1 at e1 t1
    refine ⟨.ref p1, rfl, ⟨rfl, eo.same t1⟩, line_le (by show 3 ≤ 1000; decide), fun r2 k2 => ?_⟩
    have x2 := same_n (o := .lst [V.bl (decide (i = 6)), V.bl (decide (i = 7)), V.bl (decide (i = 8))]) k2
    have w2 : upd G1 r2 (.lst [V.bl (decide (i = 6)), V.bl (decide (i = 7)), V.bl (decide (i = 8))]) r2 = some (.lst [V.bl (decide (i = 6)), V.bl (decide (i = 7)), V.bl (decide (i = 8))]) := upd_same
    generalize upd G1 r2 (.lst [V.bl (decide (i = 6)), V.bl (decide (i = 7)), V.bl (decide (i = 8))]) = J2 at x2 w2
    refine ⟨p1, r2, _, _, rfl, rfl, x2 _ _ e1, w2, line_le (by show 9 ≤ 1000; decide), fun p2 n2 => ?_⟩
    have e2 : upd J2 p2 (.lst (((List.range 6).map fun j => V.bl (decide (i = j))) ++ [V.bl (decide (i = 6)), V.bl (decide (i = 7)), V.bl (decide (i = 8))])) p2 = some (.lst ((List.range 9).map fun j => V.bl (decide (i = j)))) := upd_same
    have z2 : H p2 = none := (t1.trans x2).free n2
    have t2 := (t1.trans x2).trans (same_n (o := .lst (((List.range 6).map fun j => V.bl (decide (i = j))) ++ [V.bl (decide (i = 6)), V.bl (decide (i = 7)), V.bl (decide (i = 8))])) n2)
    generalize upd J2 p2 (.lst (((List.range 6).map fun j => V.bl (decide (i = j))) ++ [V.bl (decide (i = 6)), V.bl (decide (i = 7)), V.bl (decide (i = 8))])) = G2 at e2 t2
    refine ⟨.ref p2, rfl, ⟨rfl, eo.same t2⟩, line_le (by show 3 ≤ 1000; decide), fun r3 k3 => ?_⟩
    have x3 := same_n (o := .lst [V.bl (decide (i = 9)), V.bl (decide (i = 10)), V.bl (decide (i = 11))]) k3
    have w3 : upd G2 r3 (.lst [V.bl (decide (i = 9)), V.bl (decide (i = 10)), V.bl (decide (i = 11))]) r3 = some (.lst [V.bl (decide (i = 9)), V.bl (decide (i = 10)), V.bl (decide (i = 11))]) := upd_same
    generalize upd G2 r3 (.lst [V.bl (decide (i = 9)), V.bl (decide (i = 10)), V.bl (decide (i = 11))]) = J3 at x3 w3
    refine ⟨p2, r3, _, _, rfl, rfl, x3 _ _ e2, w3, line_le (by show 12 ≤ 1000; decide), fun p3 n3 => ?_⟩
    have e3 : upd J3 p3 (.lst (((List.range 9).map fun j => V.bl (decide (i = j))) ++ [V.bl (decide (i = 9)), V.bl (decide (i = 10)), V.bl (decide (i = 11))])) p3 = some (.lst ((List.range 12).map fun j => V.bl (decide (i = j)))) := upd_same
    have z3 : H p3 = none := (t2.trans x3).free n3
    have t3 := (t2.trans x3).trans (same_n (o := .lst (((List.range 9).map fun j => V.bl (decide (i = j))) ++ [V.bl (decide (i = 9)), V.bl (decide (i = 10)), V.bl (decide (i = 11))])) n3)
    generalize upd J3 p3 (.lst (((List.range 9).map fun j => V.bl (decide (i = j))) ++ [V.bl (decide (i = 9)), V.bl (decide (i = 10)), V.bl (decide (i = 11))])) = G3 at e3 t3
    refine ⟨.ref p3, rfl, ⟨rfl, eo.same t3⟩, line_le (by show 3 ≤ 1000; decide), fun r4 k4 => ?_⟩
    have x4 := same_n (o := .lst [V.bl (decide (i = 12)), V.bl (decide (i = 13)), V.bl (decide (i = 14))]) k4
    have w4 : upd G3 r4 (.lst [V.bl (decide (i = 12)), V.bl (decide (i = 13)), V.bl (decide (i = 14))]) r4 = some (.lst [V.bl (decide (i = 12)), V.bl (decide (i = 13)), V.bl (decide (i = 14))]) := upd_same
    generalize upd G3 r4 (.lst [V.bl (decide (i = 12)), V.bl (decide (i = 13)), V.bl (decide (i = 14))]) = J4 at x4 w4
    refine ⟨p3, r4, _, _, rfl, rfl, x4 _ _ e3, w4, line_le (by show 15 ≤ 1000; decide), fun p4 n4 => ?_⟩
    have e4 : upd J4 p4 (.lst (((List.range 12).map fun j => V.bl (decide (i = j))) ++ [V.bl (decide (i = 12)), V.bl (decide (i = 13)), V.bl (decide (i = 14))])) p4 = some (.lst ((List.range 15).map fun j => V.bl (decide (i = j)))) := upd_same
    have z4 : H p4 = none := (t3.trans x4).free n4
    have t4 := (t3.trans x4).trans (same_n (o := .lst (((List.range 12).map fun j => V.bl (decide (i = j))) ++ [V.bl (decide (i = 12)), V.bl (decide (i = 13)), V.bl (decide (i = 14))])) n4)
    generalize upd J4 p4 (.lst (((List.range 12).map fun j => V.bl (decide (i = j))) ++ [V.bl (decide (i = 12)), V.bl (decide (i = 13)), V.bl (decide (i = 14))])) = G4 at e4 t4
    refine ⟨.ref p4, rfl, ⟨rfl, eo.same t4⟩, line_le (by show 3 ≤ 1000; decide), fun r5 k5 => ?_⟩
    have x5 := same_n (o := .lst [V.bl (decide (i = 15)), V.bl (decide (i = 16)), V.bl (decide (i = 17))]) k5
    have w5 : upd G4 r5 (.lst [V.bl (decide (i = 15)), V.bl (decide (i = 16)), V.bl (decide (i = 17))]) r5 = some (.lst [V.bl (decide (i = 15)), V.bl (decide (i = 16)), V.bl (decide (i = 17))]) := upd_same
    generalize upd G4 r5 (.lst [V.bl (decide (i = 15)), V.bl (decide (i = 16)), V.bl (decide (i = 17))]) = J5 at x5 w5
    refine ⟨p4, r5, _, _, rfl, rfl, x5 _ _ e4, w5, line_le (by show 18 ≤ 1000; decide), fun p5 n5 => ?_⟩
    have e5 : upd J5 p5 (.lst (((List.range 15).map fun j => V.bl (decide (i = j))) ++ [V.bl (decide (i = 15)), V.bl (decide (i = 16)), V.bl (decide (i = 17))])) p5 = some (.lst ((List.range 18).map fun j => V.bl (decide (i = j)))) := upd_same
    have z5 : H p5 = none := (t4.trans x5).free n5
    have t5 := (t4.trans x5).trans (same_n (o := .lst (((List.range 15).map fun j => V.bl (decide (i = j))) ++ [V.bl (decide (i = 15)), V.bl (decide (i = 16)), V.bl (decide (i = 17))])) n5)
    generalize upd J5 p5 (.lst (((List.range 15).map fun j => V.bl (decide (i = j))) ++ [V.bl (decide (i = 15)), V.bl (decide (i = 16)), V.bl (decide (i = 17))])) = G5 at e5 t5
    refine ⟨.ref p5, rfl, ⟨rfl, eo.same t5⟩, line_le (by show 3 ≤ 1000; decide), fun r6 k6 => ?_⟩
    have x6 := same_n (o := .lst [V.bl (decide (i = 18)), V.bl (decide (i = 19)), V.bl (decide (i = 20))]) k6
    have w6 : upd G5 r6 (.lst [V.bl (decide (i = 18)), V.bl (decide (i = 19)), V.bl (decide (i = 20))]) r6 = some (.lst [V.bl (decide (i = 18)), V.bl (decide (i = 19)), V.bl (decide (i = 20))]) := upd_same
    generalize upd G5 r6 (.lst [V.bl (decide (i = 18)), V.bl (decide (i = 19)), V.bl (decide (i = 20))]) = J6 at x6 w6
    refine ⟨p5, r6, _, _, rfl, rfl, x6 _ _ e5, w6, line_le (by show 21 ≤ 1000; decide), fun p6 n6 => ?_⟩
    have e6 : upd J6 p6 (.lst (((List.range 18).map fun j => V.bl (decide (i = j))) ++ [V.bl (decide (i = 18)), V.bl (decide (i = 19)), V.bl (decide (i = 20))])) p6 = some (.lst ((List.range 21).map fun j => V.bl (decide (i = j)))) := upd_same
    have z6 : H p6 = none := (t5.trans x6).free n6
    have t6 := (t5.trans x6).trans (same_n (o := .lst (((List.range 18).map fun j => V.bl (decide (i = j))) ++ [V.bl (decide (i = 18)), V.bl (decide (i = 19)), V.bl (decide (i = 20))])) n6)
    generalize upd J6 p6 (.lst (((List.range 18).map fun j => V.bl (decide (i = j))) ++ [V.bl (decide (i = 18)), V.bl (decide (i = 19)), V.bl (decide (i = 20))])) = G6 at e6 t6
    refine ⟨.ref p6, rfl, ⟨rfl, eo.same t6⟩, line_le (by show 3 ≤ 1000; decide), fun r7 k7 => ?_⟩
    have x7 := same_n (o := .lst [V.bl (decide (i = 21)), V.bl (decide (i = 22)), V.bl (decide (i = 23))]) k7
    have w7 : upd G6 r7 (.lst [V.bl (decide (i = 21)), V.bl (decide (i = 22)), V.bl (decide (i = 23))]) r7 = some (.lst [V.bl (decide (i = 21)), V.bl (decide (i = 22)), V.bl (decide (i = 23))]) := upd_same
    generalize upd G6 r7 (.lst [V.bl (decide (i = 21)), V.bl (decide (i = 22)), V.bl (decide (i = 23))]) = J7 at x7 w7
    refine ⟨p6, r7, _, _, rfl, rfl, x7 _ _ e6, w7, line_le (by show 24 ≤ 1000; decide), fun p7 n7 => ?_⟩
    have e7 : upd J7 p7 (.lst (((List.range 21).map fun j => V.bl (decide (i = j))) ++ [V.bl (decide (i = 21)), V.bl (decide (i = 22)), V.bl (decide (i = 23))])) p7 = some (.lst ((List.range 24).map fun j => V.bl (decide (i = j)))) := upd_same
    have z7 : H p7 = none := (t6.trans x7).free n7
    have t7 := (t6.trans x7).trans (same_n (o := .lst (((List.range 21).map fun j => V.bl (decide (i = j))) ++ [V.bl (decide (i = 21)), V.bl (decide (i = 22)), V.bl (decide (i = 23))])) n7)
    generalize upd J7 p7 (.lst (((List.range 21).map fun j => V.bl (decide (i = j))) ++ [V.bl (decide (i = 21)), V.bl (decide (i = 22)), V.bl (decide (i = 23))])) = G7 at e7 t7
    refine ⟨.ref p7, rfl, ⟨rfl, eo.same t7⟩, line_le (by show 3 ≤ 1000; decide), fun r8 k8 => ?_⟩
    have x8 := same_n (o := .lst [V.bl (decide (i = 24)), V.bl (decide (i = 25)), V.bl (decide (i = 26))]) k8
    have w8 : upd G7 r8 (.lst [V.bl (decide (i = 24)), V.bl (decide (i = 25)), V.bl (decide (i = 26))]) r8 = some (.lst [V.bl (decide (i = 24)), V.bl (decide (i = 25)), V.bl (decide (i = 26))]) := upd_same
    generalize upd G7 r8 (.lst [V.bl (decide (i = 24)), V.bl (decide (i = 25)), V.bl (decide (i = 26))]) = J8 at x8 w8
    refine ⟨p7, r8, _, _, rfl, rfl, x8 _ _ e7, w8, line_le (by show 27 ≤ 1000; decide), fun p8 n8 => ?_⟩
    have e8 : upd J8 p8 (.lst (((List.range 24).map fun j => V.bl (decide (i = j))) ++ [V.bl (decide (i = 24)), V.bl (decide (i = 25)), V.bl (decide (i = 26))])) p8 = some (.lst ((List.range 27).map fun j => V.bl (decide (i = j)))) := upd_same
    have z8 : H p8 = none := (t7.trans x8).free n8
    have t8 := (t7.trans x8).trans (same_n (o := .lst (((List.range 24).map fun j => V.bl (decide (i = j))) ++ [V.bl (decide (i = 24)), V.bl (decide (i = 25)), V.bl (decide (i = 26))])) n8)
    generalize upd J8 p8 (.lst (((List.range 24).map fun j => V.bl (decide (i = j))) ++ [V.bl (decide (i = 24)), V.bl (decide (i = 25)), V.bl (decide (i = 26))])) = G8 at e8 t8
    refine ⟨.ref p8, rfl, ⟨rfl, eo.same t8⟩, line_le (by show 2 ≤ 1000; decide), fun r9 k9 => ?_⟩
    have x9 := same_n (o := .lst [V.bl (decide (i = 27)), V.bl (decide (i = 28))]) k9
    have w9 : upd G8 r9 (.lst [V.bl (decide (i = 27)), V.bl (decide (i = 28))]) r9 = some (.lst [V.bl (decide (i = 27)), V.bl (decide (i = 28))]) := upd_same
    generalize upd G8 r9 (.lst [V.bl (decide (i = 27)), V.bl (decide (i = 28))]) = J9 at x9 w9
    refine ⟨p8, r9, _, _, rfl, rfl, x9 _ _ e8, w9, line_le (by show 29 ≤ 1000; decide), fun p9 n9 => ?_⟩
    have e9 : upd J9 p9 (.lst (((List.range 27).map fun j => V.bl (decide (i = j))) ++ [V.bl (decide (i = 27)), V.bl (decide (i = 28))])) p9 = some (.lst ((List.range 29).map fun j => V.bl (decide (i = j)))) := upd_same
    have z9 : H p9 = none := (t8.trans x9).free n9
    have t9 := (t8.trans x9).trans (same_n (o := .lst (((List.range 27).map fun j => V.bl (decide (i = j))) ++ [V.bl (decide (i = 27)), V.bl (decide (i = 28))])) n9)
    generalize upd J9 p9 (.lst (((List.range 27).map fun j => V.bl (decide (i = j))) ++ [V.bl (decide (i = 27)), V.bl (decide (i = 28))])) = G9 at e9 t9
    exact q p9 G9 t9 z9 e9
/-! lists of bools, as data -/
theorem bools_dp {K : PySem.W.Frag} {H : Hp} : ∀ bs : List Bool, DpAll K H (bs.map V.bl) (bs.map PyData.bool)
  | [] => .nil
  | b :: r => .cons (.bl b) (bools_dp r)
theorem bools_canLay : ∀ bs : List Bool, PyData.canLayAll0 (bs.map PyData.bool) = true
  | [] => rfl
  | b :: r => by
    simp only [List.map_cons, PyData.canLayAll0, PyData.canLay0, bools_canLay r, Bool.and_self]
theorem bools_depth : ∀ bs : List Bool, PyData.depthAll (bs.map PyData.bool) = 0
  | [] => rfl
  | b :: r => by
    simp only [List.map_cons, PyData.depthAll, PyData.depth, bools_depth r, Nat.max_self]
theorem bools_shaped (bs : List Bool) : SeqAt.shaped (.list (bs.map PyData.bool)) = true := by
  unfold SeqAt.shaped
  simp only [PyData.canLay0, PyData.depth, bools_canLay, bools_depth, Bool.and_eq_true, decide_eq_true_eq]
  exact ⟨trivial, by omega⟩
theorem bools_eqvA : ∀ bs : List Bool, PyData.eqvAll (bs.map PyData.bool) (bs.map PyData.bool) = true
  | [] => by simp only [List.map_nil, PyData.eqvAll]
  | b :: r => by
    simp only [List.map_cons, PyData.eqvAll, PyData.eqv, beq_self_eq_true, bools_eqvA r, Bool.and_self]
theorem bools_eqv (bs : List Bool) : PyData.eqv (.list (bs.map PyData.bool)) (.list (bs.map PyData.bool)) = true := by
  simp only [PyData.eqv, bools_eqvA]
def yesB (i : Nat) (n : Nat) : List Bool := (List.range n).map fun j => decide (i = j)
theorem yes_eqB (i : Nat) : yes i = (yesB i 29).map V.bl := by
  unfold yes yesB
  rw [List.map_map]
  rfl
theorem yesB_succ (i n : Nat) : yesB i (n + 1) = yesB i n ++ [decide (i = n)] := by
  unfold yesB
  rw [List.range_succ, List.map_append]
  rfl
def spOwn (cA : Nat → Addr) : Sp := fun vs H Q _ => ∃ (a : Addr) (i : Nat), vs = [.int i, .ref a] ∧ i < 29 ∧ EvO H a (cA i) ∧ ∀ H', Same H H' → Q (.bl true) H'
theorem ok_own {f fC : Addr} {fd fdC : FuncData} (F : Fun K "_law_is_own" "_law_is_own" sOwn f fd) (e : Cls P w K mg base cA fA) (k : Kit K mg cA G) (mi : mg "isinstance" = none) (mr : mg "range" = none)
    (GC : FnOk P w K mg base CX0 1 fC fdC ["_law_error"] (spCls cA)) (gC : mg "_law_classes" = some (.ref fC)) (kC : PySem.W.keepIn K (.ref fC) = true) (bC : Binds K fdC ["_law_error"] [])
    (m1 : mg "Exception" = none) (m2 : mg "ValueError" = none) (m3 : mg "TypeError" = none) (m4 : mg "LookupError" = none) (m5 : mg "ArithmeticError" = none) (m6 : mg "RuntimeError" = none) (m7 : mg "AttributeError" = none) :
    FnOk P w K mg base CX0 2 f fd ["_law_at", "_law_error"] (spOwn cA) := by
  refine F.ok scOwn (fun vs H Q E h => ?_) (fun cdv A outer s H vs Q E hr h => ?_)
  · obtain ⟨_, _, rfl, _⟩ := h
    rfl
  · obtain ⟨a, i, rfl, hi, eo, q⟩ := h
    have T := e.ec hi
    have nd := scOwn.nd
    let cond : L2.St → Hp → Prop := fun σ H => σ[1]? = some (some (.ref a)) ∧ EvO H a (cA i)
    have hc : ∀ σ H, cond σ H → σ[1]? = some (some (.ref a)) ∧ EvO H a (cA i) := fun _ _ c => c
    refine ⟨_, pss_cons (ps_if (pw_or (pt_not (pt_val (pe_isi mi T k.cd (pv 1) k.gG (k.kitG i hi) hc))) (pw_or1 (pt_not (pt_val (pe_isiB mi T k.cd (pv 1) (pe_bltn (v := .ty "Exception") (by rfl) m1 (by decide +kernel) rfl) (k.kitE i hi) hc))))).pt (pss_one (ps_ret pe_bl)) pss_nil)
      (pss_cons (ps_if (pt_val (pe_callB call_isVT (by rfl) mi PyProof.Rows.boot_isinstance (pa_cons (pv 1) (pa_cons (pe_tup (pa_cons (pe_bltn (v := .ty "ValueError") (by rfl) m2 (by decide +kernel) rfl) (pa_cons (pe_bltn (v := .ty "TypeError") (by rfl) m3 (by decide +kernel) rfl)
        (pa_cons (pe_bltn (v := .ty "LookupError") (by rfl) m4 (by decide +kernel) rfl) (pa_cons (pe_bltn (v := .ty "ArithmeticError") (by rfl) m5 (by decide +kernel) rfl) (pa_cons (pe_bltn (v := .ty "RuntimeError") (by rfl) m6 (by decide +kernel) rfl) (pa_cons (pe_bltn (v := .ty "AttributeError") (by rfl) m7 (by decide +kernel) rfl) pa_nil))))))) pa_nil)))) (pss_one (ps_ret pe_bl)) pss_nil)
      (pss_one (ps_ret (pe_cmpR (op_eqD hr.units) (pe_call GC hr (by rfl) gC kC bC .nil pass0 (pa_cons (pv 1) pa_nil))
        (pe_lc (own := [("_law_place", 2)]) (g := gName 2) (tt := tYes) rfl nd (pi_range1 (by rfl) mr (pa_cons pe_int pa_nil)) (blkOk_by (N := nOwn) (sc := defScope sOwn) (by decide +kernel))
          (fun _ _ _ _ _ => pg_name (i := 2) nd rfl (Or.inl rfl)) (fun _ _ _ _ _ => pts_nil) (fun _ _ _ _ _ => pe_cmpR op_eq (pv 2) (pv 0) (nomark _))) (nomark _))))), ?_⟩
    obtain ⟨d, e1, e2⟩ := id eo
    refine ⟨⟨rfl, eo⟩, true, rfl, iteF ⟨⟨rfl, eo⟩, true, rfl, iteF ?_⟩⟩
    refine ⟨.ref a, rfl, line_le (by show 6 ≤ 1000; decide), fun tp ntp => ?_⟩
    have s0 := same_n (o := .tup [V.ty "ValueError", V.ty "TypeError", V.ty "LookupError", V.ty "ArithmeticError", V.ty "RuntimeError", V.ty "AttributeError"]) ntp
    have w0 : upd H tp (.tup [V.ty "ValueError", V.ty "TypeError", V.ty "LookupError", V.ty "ArithmeticError", V.ty "RuntimeError", V.ty "AttributeError"]) tp = some (.tup [V.ty "ValueError", V.ty "TypeError", V.ty "LookupError", V.ty "ArithmeticError", V.ty "RuntimeError", V.ty "AttributeError"]) := upd_same
    have eo1 := eo.same s0
    generalize upd H tp (.tup [V.ty "ValueError", V.ty "TypeError", V.ty "LookupError", V.ty "ArithmeticError", V.ty "RuntimeError", V.ty "AttributeError"]) = H0 at s0 w0 eo1
    refine ⟨a, cA i, fA i, d, tp, _, sixT, false, rfl, T, k.cd, s0 _ _ e1, fun dd h => let ⟨fs, z⟩ := e2 dd h; ⟨fs, s0 _ _ z⟩, w0, .cons (.ty _) (.cons (.ty _) (.cons (.ty _) (.cons (.ty _) (.cons (.ty _) (.cons (.ty _) .nil))))), k.kitN i hi, false, rfl, iteF ?_⟩
    refine ⟨.ref a, rfl, a, i, rfl, hi, eo1, fun p H1 s1 np ep => ?_⟩
    refine ⟨29, rfl, by decide, by decide, fun L nL => ?_⟩
    refine lc_range (lo := 0) (n := 29) (fun j H3 => Same H1 H3 ∧ H3 L = some (.lst ((yesB i j).map V.bl))) ⟨same_n nL, upd_same⟩ ?_ ?_
    · rintro j H3 hj ⟨m3, e3⟩
      refine ⟨rfl, ?_⟩
      rw [yes_eq, if_pos rfl]
      refine ⟨.int (0 + j), rfl, .int i, rfl, rfl, _, e3, ?_, ?_, ?_⟩
      · rw [List.length_map, yesB, List.length_map, List.length_range]
        exact Nat.lt_of_lt_of_le hj (by decide)
      · intro b o eb
        rw [upd_ne (ne_of_none eb nL)]
        exact m3 b o eb
      · have z : decide (V.int (0 + (j : Int)) = V.int (i : Int)) = decide (i = j) := by
          refine decide_eq_decide.mpr ⟨fun h => ?_, fun h => ?_⟩
          · have := V.int.inj h
            omega
          · rw [h, Int.zero_add]
        rw [upd_same, yesB_succ, List.map_append, z]
        rfl
    · rintro H3 ⟨m3, e3⟩
      have ep3 : H3 p = some (.lst ((yesB i 29).map V.bl)) := by
        rw [← yes_eqB]
        exact m3 _ _ ep
      refine ⟨.list ((yesB i 29).map PyData.bool), .list ((yesB i 29).map PyData.bool), .lst (.inl (.inl ep3)) (bools_dp _), .lst (.inl (.inl e3)) (bools_dp _), bools_shaped _, bools_shaped _, ?_⟩
      rw [bools_eqv]
      exact q _ (s0.trans (s1.trans m3))
end
end K0
end

section
set_option maxHeartbeats 8000000
namespace K0
open PySem PySem.Spec PyProof.Rows L2 KD
section
variable {X : Cx}
/-- isinstance(e, c), e the error that the suite holds, an own one with its dict -/
theorem call_isS {a : Addr} {cls : Value} {d : Option Addr} {oe : Obj} {pn : List (Addr × Obj)} (hz : Zc cls d oe) (hf : ∃ vs, oe.data = .fields vs) : CallR (X.suite a ((a, oe) :: pn)) (.builtin "isinstance") (fun xs H Q =>
    ∃ (C fI dd : Addr) (c : V) (cv : Value) (b : Bool) (fs : List (Str × V)), cls = .ref C ∧ d = some dd ∧ EC X.K C fI ∧ CD X.K ∧ xs = [.ref a, c] ∧ H dd = some (.xd fs) ∧ ClsV c cv ∧ PySem.W.kitOne X.K (.ref C) cv = some b ∧ Q (.bl b) H) := by
  intro pins s σ H xs us Q I r h
  obtain ⟨C, fI, dd, c, cv, b, fs, rfl, rfl, T, D, rfl, ed, k, e, q⟩ := h
  exact call_isX T D hz hf pins s σ H _ us Q I r ⟨c, cv, b, fs, rfl, ed, k, e, q⟩
end
theorem xf_of {K : PySem.W.Frag} {C fI : Addr} (T : EC K C fI) : XfC K C := ⟨T.ga, T.gg, T.ex, T.hd⟩
abbrev sThr : Stmt := topS 41
abbrev sCau : Stmt := topS 42
theorem scThr : FnScope ["_law_way", "_law_it", "_law_far"] ["_law_way", "_law_it", "_law_far"] (defScope sThr) := ⟨rfl, rfl, rfl, by decide +kernel, rfl, by decide +kernel, by decide +kernel⟩
abbrev nCau : List Str := ["_law_way", "_law_it", "_law_far", "e"]
theorem scCau : FnScope nCau ["_law_way", "_law_it", "_law_far"] (defScope sCau) := ⟨rfl, rfl, rfl, by decide +kernel, rfl, by decide +kernel, by decide +kernel⟩
/-- what is thrown, by its number -/
def thrN : Nat → Nat
  | 0 => 0 | 1 => 19 | 2 => 23 | 3 => 21 | 4 => 22 | 5 => 16 | _ => 1
def thrF (it far : V) : Nat → List (Str × V)
  | 0 => [("thing", it)] | 1 => [("at", it)] | 2 => [("n", far), ("wish", it)] | 3 => [("most", it)] | 4 => [("c", it)] | 5 => [("thing", it)] | _ => [("thing", it)]
section
variable {P : Program} {w : World} {K : PySem.W.Frag} {mg : Str → Option Value} {base : Heap} {cA fA : Nat → Addr} {G : Addr}
def spThr (cA : Nat → Addr) : Sp := fun vs H Q E => ∃ (n : Nat) (it far : V), vs = [.int n, it, far] ∧ n < 7 ∧ ∀ d H', Same H H' → H d = none → H' d = some (.xd (thrF it far n)) → E (.ref (cA (thrN n))) (some d) H'
theorem ok_thr {f : Addr} {fd : FuncData} (F : Fun K "_law_thrown" "_law_thrown" sThr f fd) (e : Cls P w K mg base cA fA) : FnOk P w K mg base (L2.CX P w) 3 f fd ["_law_way", "_law_it", "_law_far"] (spThr cA) := by
  refine F.okX scThr (fun vs H Q E h => ?_) (fun cdv A outer s H vs Q E hr h => ?_)
  · obtain ⟨_, _, _, rfl, _⟩ := h
    rfl
  · obtain ⟨n, it, far, rfl, hn, q⟩ := h
    let cond : L2.St → Prop := fun σ => σ[1]? = some (some it) ∧ σ[2]? = some (some far)
    have hc : ∀ σ, cond σ → σ[1]? = some (some it) := fun _ c => c.1
    have h2 : ∀ σ, cond σ → σ[1]? = some (some it) ∧ σ[2]? = some (some far) := fun _ c => c
    have t : ∀ {N : Nat}, Takes (cxOf (L2.CX P w) P w K mg base ["_law_way", "_law_it", "_law_far"] "_law_thrown" (defScope sThr) f cdv A outer s H E) (fun cls d _ H => E cls d H) := takes_of rfl rfl rfl rfl
    refine ⟨_, pss_cons (ps_if (pt_cmpR op_eq (pv 0) pe_int (nomark _)) (pss_one (ps_raise rfl (takes_of rfl rfl rfl rfl) (pm_new1 e.c0 hr (pv 1) hc))) pss_nil)
      (pss_cons (ps_if (pt_cmpR op_eq (pv 0) pe_int (nomark _)) (pss_one (ps_raise rfl (takes_of rfl rfl rfl rfl) (pm_new1K e.c19 hr (pv 1) hc))) pss_nil)
      (pss_cons (ps_if (pt_cmpR op_eq (pv 0) pe_int (nomark _)) (pss_one (ps_raise rfl (takes_of rfl rfl rfl rfl) (pm_new2 e.c23 hr (pv 1) (pv 2) h2))) pss_nil)
      (pss_cons (ps_if (pt_cmpR op_eq (pv 0) pe_int (nomark _)) (pss_one (ps_raise rfl (takes_of rfl rfl rfl rfl) (pm_new1 e.c21 hr (pv 1) hc))) pss_nil)
      (pss_cons (ps_if (pt_cmpR op_eq (pv 0) pe_int (nomark _)) (pss_one (ps_raise rfl (takes_of rfl rfl rfl rfl) (pm_new1K e.c22 hr (pv 1) hc))) pss_nil)
      (pss_cons (ps_if (pt_cmpR op_eq (pv 0) pe_int (nomark _)) (pss_one (ps_raise rfl (takes_of rfl rfl rfl rfl) (pm_new1 e.c16 hr (pv 1) hc))) pss_nil)
      (pss_one (ps_raise rfl (takes_of rfl rfl rfl rfl) (pm_new1K e.c1 hr (pv 1) hc)))))))), ?_⟩
    have z : n = 0 ∨ n = 1 ∨ n = 2 ∨ n = 3 ∨ n = 4 ∨ n = 5 ∨ n = 6 := by omega
    rcases z with rfl | rfl | rfl | rfl | rfl | rfl | rfl
    · exact ⟨.int _, rfl, rfl, _, rfl, iteT ⟨⟨rfl, rfl⟩, fun d H1 m1 nd ed => q d H1 m1 nd ed⟩⟩
    · exact ⟨.int _, rfl, rfl, _, rfl, iteF ⟨.int _, rfl, rfl, _, rfl, iteT ⟨⟨rfl, rfl⟩, fun d H1 m1 nd ed => q d H1 m1 nd ed⟩⟩⟩
    · exact ⟨.int _, rfl, rfl, _, rfl, iteF ⟨.int _, rfl, rfl, _, rfl, iteF ⟨.int _, rfl, rfl, _, rfl, iteT ⟨⟨rfl, rfl⟩, fun d H1 m1 nd ed => q d H1 m1 nd ed⟩⟩⟩⟩
    · exact ⟨.int _, rfl, rfl, _, rfl, iteF ⟨.int _, rfl, rfl, _, rfl, iteF ⟨.int _, rfl, rfl, _, rfl, iteF ⟨.int _, rfl, rfl, _, rfl, iteT ⟨⟨rfl, rfl⟩, fun d H1 m1 nd ed => q d H1 m1 nd ed⟩⟩⟩⟩⟩
    · exact ⟨.int _, rfl, rfl, _, rfl, iteF ⟨.int _, rfl, rfl, _, rfl, iteF ⟨.int _, rfl, rfl, _, rfl, iteF ⟨.int _, rfl, rfl, _, rfl, iteF ⟨.int _, rfl, rfl, _, rfl, iteT ⟨⟨rfl, rfl⟩, fun d H1 m1 nd ed => q d H1 m1 nd ed⟩⟩⟩⟩⟩⟩
    · exact ⟨.int _, rfl, rfl, _, rfl, iteF ⟨.int _, rfl, rfl, _, rfl, iteF ⟨.int _, rfl, rfl, _, rfl, iteF ⟨.int _, rfl, rfl, _, rfl, iteF ⟨.int _, rfl, rfl, _, rfl, iteF ⟨.int _, rfl, rfl, _, rfl, iteT ⟨⟨rfl, rfl⟩, fun d H1 m1 nd ed => q d H1 m1 nd ed⟩⟩⟩⟩⟩⟩⟩
    · exact ⟨.int _, rfl, rfl, _, rfl, iteF ⟨.int _, rfl, rfl, _, rfl, iteF ⟨.int _, rfl, rfl, _, rfl, iteF ⟨.int _, rfl, rfl, _, rfl, iteF ⟨.int _, rfl, rfl, _, rfl, iteF ⟨.int _, rfl, rfl, _, rfl, iteF ⟨⟨rfl, rfl⟩, fun d H1 m1 nd ed => q d H1 m1 nd ed⟩⟩⟩⟩⟩⟩⟩
def spCau : Sp := fun vs H Q _ => ∃ (n : Nat) (it far : V), vs = [.int n, it, far] ∧ n < 7 ∧ ∀ t H', Same H H' → H t = none → H' t = some (.tup [.int n, it]) → Q (.ref t) H'
theorem ok_cau {f fT : Addr} {fd fdT : FuncData} (F : Fun K "_law_caught" "_law_caught" sCau f fd) (e : Cls P w K mg base cA fA) (k : Kit K mg cA G) (mi : mg "isinstance" = none)
    (GT : FnOk P w K mg base (L2.CX P w) 3 fT fdT ["_law_way", "_law_it", "_law_far"] (spThr cA)) (gT : mg "_law_thrown" = some (.ref fT)) (kT : PySem.W.keepIn K (.ref fT) = true) (bT : Binds K fdT ["_law_way", "_law_it", "_law_far"] []) :
    FnOk P w K mg base CX0 4 f fd ["_law_way", "_law_it", "_law_far"] spCau := by
  refine F.ok scCau (fun vs H Q E h => ?_) (fun cdv A outer s H vs Q E hr h => ?_)
  · obtain ⟨_, _, _, rfl, _⟩ := h
    rfl
  · obtain ⟨n, it, far, rfl, hn, q⟩ := h
    have nd := scCau.nd
    refine ⟨_, pss_cons (ps_try_cl rfl rfl nd takes0 (fun W pn xe tk _ => pss_one (ps_expr (pe_callS GT hr (by rfl) gT kT bT (fun σ => passAt tk σ) (pa_cons (pv 0) (pa_cons (pv 1) (pa_cons (pv 2) pa_nil))))))
      (Hds.as (i := 3) ⟨by rfl, by decide, .inl e.c3.g⟩ rfl rfl (fun a oe cls d pn hz hf => (pss_one (ps_ret (pe_tup (pa_cons pe_int (pa_cons (pe_xf (xf_of e.c3.ec) e.c3.free hz hf (pv 3)) pa_nil))))))
      (Hds.as (i := 3) ⟨by rfl, by decide, .inl e.c0.g⟩ rfl rfl (fun a oe cls d pn hz hf => (pss_one (ps_ret (pe_tup (pa_cons pe_int (pa_cons (pe_xf (xf_of e.c0.ec) e.c0.free hz hf (pv 3)) pa_nil))))))
      (Hds.as (i := 3) ⟨by rfl, by decide, .inl e.c19.g⟩ rfl rfl (fun a oe cls d pn hz hf => (pss_one (ps_ret (pe_tup (pa_cons pe_int (pa_cons (pe_xf (xf_of e.c19.ec) e.c19.free hz hf (pv 3)) pa_nil))))))
      (Hds.as (i := 3) ⟨by rfl, by decide, .inl e.c23.g⟩ rfl rfl (fun a oe cls d pn hz hf => (pss_one (ps_ret (pe_tup (pa_cons pe_int (pa_cons (pe_xf (xf_of e.c23.ec) e.c23.free hz hf (pv 3)) pa_nil))))))
      (Hds.as (i := 3) ⟨by rfl, by decide, .inl e.c15.g⟩ rfl rfl (fun a oe cls d pn hz hf => (pss_one (ps_ret (pe_tup (pa_cons pe_int (pa_cons (pe_xf (xf_of e.c15.ec) e.c15.free hz hf (pv 3)) pa_nil))))))
      (Hds.as (i := 3) ⟨by rfl, by decide, .inl k.gG⟩ rfl rfl (fun a oe cls d pn hz hf => (pss_cons (ps_if (pt_val (pe_callB (call_isS hz hf) (by rfl) mi PyProof.Rows.boot_isinstance (pa_cons (pv 3) (pa_cons (pe_glob (by rfl) e.c21.g (v := .ref (cA 21)) rfl) pa_nil)))) (pss_one (ps_ret (pe_tup (pa_cons pe_int (pa_cons (pe_xf (xf_of e.c21.ec) e.c21.free hz hf (pv 3)) pa_nil))))) pss_nil)
        (pss_cons (ps_if (pt_val (pe_callB (call_isS hz hf) (by rfl) mi PyProof.Rows.boot_isinstance (pa_cons (pv 3) (pa_cons (pe_glob (by rfl) e.c22.g (v := .ref (cA 22)) rfl) pa_nil)))) (pss_one (ps_ret (pe_tup (pa_cons pe_int (pa_cons (pe_xf (xf_of e.c22.ec) e.c22.free hz hf (pv 3)) pa_nil))))) pss_nil)
        (pss_one (ps_ret (pe_ifExp (pt_val (pe_callB (call_isS hz hf) (by rfl) mi PyProof.Rows.boot_isinstance (pa_cons (pv 3) (pa_cons (pe_glob (by rfl) e.c16.g (v := .ref (cA 16)) rfl) pa_nil)))) (pe_tup (pa_cons pe_int (pa_cons (pe_xf (xf_of e.c16.ec) e.c16.free hz hf (pv 3)) pa_nil))) (pe_tup (pa_cons pe_int (pa_cons (pe_ifExp (pt_val (pe_callB (call_isS hz hf) (by rfl) mi PyProof.Rows.boot_isinstance (pa_cons (pv 3) (pa_cons (pe_glob (by rfl) e.c1.g (v := .ref (cA 1)) rfl) pa_nil)))) (pe_xf (xf_of e.c1.ec) e.c1.free hz hf (pv 3)) (pv 2)) pa_nil))))))))) .nil)))))))
      (pss_one (ps_ret (pe_tup (pa_cons pe_int (pa_cons (pv 1) pa_nil))))), ?_⟩
    refine ⟨.int n, rfl, it, rfl, far, rfl, n, it, far, rfl, hn, fun dd H1 m1 ndd ed => ?_⟩
    have z : n = 0 ∨ n = 1 ∨ n = 2 ∨ n = 3 ∨ n = 4 ∨ n = 5 ∨ n = 6 := by omega
    rcases z with rfl | rfl | rfl | rfl | rfl | rfl | rfl
    · exact ⟨decide (0 = 3), k.exm 0 3 (by decide) (by decide), fun h => absurd h (by decide), fun _ => ⟨decide (0 = 0), k.exm 0 0 (by decide) (by decide), fun _ a na => ⟨.ref a, rfl, rfl, rfl, dd, _, it, rfl, ed, by rfl, line_le (by show 2 ≤ 1000; decide), fun t nt => q t _ (m1.trans (same_n nt)) (m1.free nt) upd_same⟩, fun h => absurd h (by decide)⟩⟩
    · exact ⟨decide (19 = 3), k.exm 19 3 (by decide) (by decide), fun h => absurd h (by decide), fun _ => ⟨decide (19 = 0), k.exm 19 0 (by decide) (by decide), fun h => absurd h (by decide), fun _ => ⟨decide (19 = 19), k.exm 19 19 (by decide) (by decide), fun _ a na => ⟨.ref a, rfl, rfl, rfl, dd, _, it, rfl, ed, by rfl, line_le (by show 2 ≤ 1000; decide), fun t nt => q t _ (m1.trans (same_n nt)) (m1.free nt) upd_same⟩, fun h => absurd h (by decide)⟩⟩⟩
    · exact ⟨decide (23 = 3), k.exm 23 3 (by decide) (by decide), fun h => absurd h (by decide), fun _ => ⟨decide (23 = 0), k.exm 23 0 (by decide) (by decide), fun h => absurd h (by decide), fun _ => ⟨decide (23 = 19), k.exm 23 19 (by decide) (by decide), fun h => absurd h (by decide), fun _ => ⟨decide (23 = 23), k.exm 23 23 (by decide) (by decide), fun _ a na => ⟨.ref a, rfl, rfl, rfl, dd, _, it, rfl, ed, by rfl, line_le (by show 2 ≤ 1000; decide), fun t nt => q t _ (m1.trans (same_n nt)) (m1.free nt) upd_same⟩, fun h => absurd h (by decide)⟩⟩⟩⟩
    · exact ⟨decide (21 = 3), k.exm 21 3 (by decide) (by decide), fun h => absurd h (by decide), fun _ => ⟨decide (21 = 0), k.exm 21 0 (by decide) (by decide), fun h => absurd h (by decide), fun _ => ⟨decide (21 = 19), k.exm 21 19 (by decide) (by decide), fun h => absurd h (by decide), fun _ => ⟨decide (21 = 23), k.exm 21 23 (by decide) (by decide), fun h => absurd h (by decide), fun _ => ⟨decide (21 = 15), k.exm 21 15 (by decide) (by decide), fun h => absurd h (by decide), fun _ => ⟨true, k.exmG 21 (by decide), fun _ a na => ⟨.ref a, rfl, cA 21, fA 21, dd, .ref (cA 21), .ref (cA 21), decide (21 = 21), _, rfl, rfl, e.c21.ec, k.cd, rfl, ed, .own _, k.kit 21 21 (by decide) (by decide), _, rfl, iteT ⟨.ref a, rfl, rfl, rfl, dd, _, it, rfl, ed, by rfl, line_le (by show 2 ≤ 1000; decide), fun t nt => q t _ (m1.trans (same_n nt)) (m1.free nt) upd_same⟩⟩, fun h => nomatch h⟩⟩⟩⟩⟩⟩
    · exact ⟨decide (22 = 3), k.exm 22 3 (by decide) (by decide), fun h => absurd h (by decide), fun _ => ⟨decide (22 = 0), k.exm 22 0 (by decide) (by decide), fun h => absurd h (by decide), fun _ => ⟨decide (22 = 19), k.exm 22 19 (by decide) (by decide), fun h => absurd h (by decide), fun _ => ⟨decide (22 = 23), k.exm 22 23 (by decide) (by decide), fun h => absurd h (by decide), fun _ => ⟨decide (22 = 15), k.exm 22 15 (by decide) (by decide), fun h => absurd h (by decide), fun _ => ⟨true, k.exmG 22 (by decide), fun _ a na => ⟨.ref a, rfl, cA 22, fA 22, dd, .ref (cA 21), .ref (cA 21), decide (22 = 21), _, rfl, rfl, e.c22.ec, k.cd, rfl, ed, .own _, k.kit 22 21 (by decide) (by decide), _, rfl, iteF ⟨.ref a, rfl, cA 22, fA 22, dd, .ref (cA 22), .ref (cA 22), decide (22 = 22), _, rfl, rfl, e.c22.ec, k.cd, rfl, ed, .own _, k.kit 22 22 (by decide) (by decide), _, rfl, iteT ⟨.ref a, rfl, rfl, rfl, dd, _, it, rfl, ed, by rfl, line_le (by show 2 ≤ 1000; decide), fun t nt => q t _ (m1.trans (same_n nt)) (m1.free nt) upd_same⟩⟩⟩, fun h => nomatch h⟩⟩⟩⟩⟩⟩
    · exact ⟨decide (16 = 3), k.exm 16 3 (by decide) (by decide), fun h => absurd h (by decide), fun _ => ⟨decide (16 = 0), k.exm 16 0 (by decide) (by decide), fun h => absurd h (by decide), fun _ => ⟨decide (16 = 19), k.exm 16 19 (by decide) (by decide), fun h => absurd h (by decide), fun _ => ⟨decide (16 = 23), k.exm 16 23 (by decide) (by decide), fun h => absurd h (by decide), fun _ => ⟨decide (16 = 15), k.exm 16 15 (by decide) (by decide), fun h => absurd h (by decide), fun _ => ⟨true, k.exmG 16 (by decide), fun _ a na => ⟨.ref a, rfl, cA 16, fA 16, dd, .ref (cA 21), .ref (cA 21), decide (16 = 21), _, rfl, rfl, e.c16.ec, k.cd, rfl, ed, .own _, k.kit 16 21 (by decide) (by decide), _, rfl, iteF ⟨.ref a, rfl, cA 16, fA 16, dd, .ref (cA 22), .ref (cA 22), decide (16 = 22), _, rfl, rfl, e.c16.ec, k.cd, rfl, ed, .own _, k.kit 16 22 (by decide) (by decide), _, rfl, iteF ⟨.ref a, rfl, cA 16, fA 16, dd, .ref (cA 16), .ref (cA 16), decide (16 = 16), _, rfl, rfl, e.c16.ec, k.cd, rfl, ed, .own _, k.kit 16 16 (by decide) (by decide), _, rfl, iteT ⟨.ref a, rfl, rfl, rfl, dd, _, it, rfl, ed, by rfl, line_le (by show 2 ≤ 1000; decide), fun t nt => q t _ (m1.trans (same_n nt)) (m1.free nt) upd_same⟩⟩⟩⟩, fun h => nomatch h⟩⟩⟩⟩⟩⟩
    · exact ⟨decide (1 = 3), k.exm 1 3 (by decide) (by decide), fun h => absurd h (by decide), fun _ => ⟨decide (1 = 0), k.exm 1 0 (by decide) (by decide), fun h => absurd h (by decide), fun _ => ⟨decide (1 = 19), k.exm 1 19 (by decide) (by decide), fun h => absurd h (by decide), fun _ => ⟨decide (1 = 23), k.exm 1 23 (by decide) (by decide), fun h => absurd h (by decide), fun _ => ⟨decide (1 = 15), k.exm 1 15 (by decide) (by decide), fun h => absurd h (by decide), fun _ => ⟨true, k.exmG 1 (by decide), fun _ a na => ⟨.ref a, rfl, cA 1, fA 1, dd, .ref (cA 21), .ref (cA 21), decide (1 = 21), _, rfl, rfl, e.c1.ec, k.cd, rfl, ed, .own _, k.kit 1 21 (by decide) (by decide), _, rfl, iteF ⟨.ref a, rfl, cA 1, fA 1, dd, .ref (cA 22), .ref (cA 22), decide (1 = 22), _, rfl, rfl, e.c1.ec, k.cd, rfl, ed, .own _, k.kit 1 22 (by decide) (by decide), _, rfl, iteF ⟨.ref a, rfl, cA 1, fA 1, dd, .ref (cA 16), .ref (cA 16), decide (1 = 16), _, rfl, rfl, e.c1.ec, k.cd, rfl, ed, .own _, k.kit 1 16 (by decide) (by decide), _, rfl, iteF ⟨.ref a, rfl, cA 1, fA 1, dd, .ref (cA 1), .ref (cA 1), decide (1 = 1), _, rfl, rfl, e.c1.ec, k.cd, rfl, ed, .own _, k.kit 1 1 (by decide) (by decide), _, rfl, iteT ⟨.ref a, rfl, rfl, rfl, dd, _, it, rfl, ed, by rfl, line_le (by show 2 ≤ 1000; decide), fun t nt => q t _ (m1.trans (same_n nt)) (m1.free nt) upd_same⟩⟩⟩⟩⟩, fun h => nomatch h⟩⟩⟩⟩⟩⟩
end
end K0
end

section
set_option maxHeartbeats 8000000
namespace K0
open PySem PySem.Spec PyProof.Rows L2 KD
abbrev sLaw : Stmt := topS 43
abbrev nLaw : List Str := ["_law_script", "_law_deck_here", "_law_one", "_law_other", "_law_third", "_law_fourth", "_law_near", "_law_far", "_law_made", "_law_at", "_law_error", "_law_way", "_law_it"]
theorem scLaw : FnScope nLaw ["_law_script"] (defScope sLaw) := ⟨rfl, rfl, rfl, by decide +kernel, rfl, by decide +kernel, by decide +kernel⟩
theorem nw_sub {H H' : Hp} : ∀ b o, nw H H' b = some o → H' b = some o := fun b o e => (of_nw e).2
theorem specs_cls {cA : Nat → Addr} {it far : V} {i : Nat} (h : i < 24) : ∃ fs, (specs cA it far)[i]? = some (cA i, fs) := by
  have z : i = 0 ∨ i = 1 ∨ i = 2 ∨ i = 3 ∨ i = 4 ∨ i = 5 ∨ i = 6 ∨ i = 7 ∨ i = 8 ∨ i = 9 ∨ i = 10 ∨ i = 11 ∨ i = 12 ∨ i = 13 ∨ i = 14 ∨ i = 15 ∨ i = 16 ∨ i = 17 ∨ i = 18 ∨ i = 19 ∨ i = 20 ∨ i = 21 ∨ i = 22 ∨ i = 23 := by omega
  rcases z with rfl | rfl | rfl | rfl | rfl | rfl | rfl | rfl | rfl | rfl | rfl | rfl | rfl | rfl | rfl | rfl | rfl | rfl | rfl | rfl | rfl | rfl | rfl | rfl <;> exact ⟨_, rfl⟩
/-- a list of errors, the i-th of the i-th class -/
def ListOk (cA : Nat → Addr) (H : Hp) (p : Addr) : Prop := ∃ as : List Addr, H p = some (.lst (as.map V.ref)) ∧ as.length ≤ 29 ∧ ∀ i a, as[i]? = some a → EvO H a (cA i)
theorem ListOk.same {cA : Nat → Addr} {H H' : Hp} {p : Addr} (l : ListOk cA H p) (s : Same H H') : ListOk cA H' p := by
  obtain ⟨as, e, n, q⟩ := l
  exact ⟨as, s _ _ e, n, fun i a h => (q i a h).same s⟩
theorem ListOk.of {cA : Nat → Addr} {H : Hp} {p : Addr} {as : List Addr} {it far : V} (e : H p = some (.lst (as.map V.ref))) (o : ObjL H as (specs cA it far)) : ListOk cA H p := by
  have l : as.length = 24 := o.len
  refine ⟨as, e, by omega, fun i a h => ?_⟩
  have hi : i < 24 := by
    have z := (List.getElem?_eq_some_iff.mp h).1
    omega
  obtain ⟨fs, z⟩ := specs_cls (cA := cA) (it := it) (far := far) hi
  exact EvO.of (o.get h z)
theorem Sm.line {dp B : Nat} {x : PyData} (h : Sm dp B x) (h1 : dp ≤ 32) (h2 : B ≤ 1000000) : x.showable = true ∧ x.depth ≤ 32 ∧ x.shown.length ≤ sizeLine :=
  ⟨h.sh, Nat.le_trans h.dp h1, Nat.le_trans h.sz (Nat.le_trans h2 (by decide))⟩
theorem ne_self {x : V} : (!decide (x = x)) = false := by simp
section
variable {P : Program} {w : World} {K : PySem.W.Frag} {mg : Str → Option Value} {base : Heap} {cA fA : Nat → Addr} {G : Addr}
/-- as fnG_of, where nothing is let out -/
theorem fnG0 {x qual : Str} {st : Stmt} {f : Addr} {fd : FuncData} {N ps : List Str} {k : Nat} {sp : Sp} (F : Fun K x qual st f fd) (S : FnScope N ps (defScope st)) (len : ∀ vs H Q E, sp vs H Q E → vs.length = ps.length)
    (hbody : ∀ (cdv : Value) (A : Around) (outer : List Env) (s : Shared) (H : Hp) (vs : List V) (Q : VK) (E : XK), A.guards = some [] → Room k (A.deeper (envOfC qual (defScope st) s.heap.objs.size f cdv)) → sp vs H Q E →
      ∃ t, PSs (cxOf CX0 P w K mg base N qual (defScope st) f cdv A outer s H E).nox (defBody st) t ∧ t { nx := fun _ H' => Q .non H', rt := Q } (start N vs) H) : FnG P w K mg base CX0 (k + 1) f fd ps sp :=
  fnG_of F S len fun cdv A outer s H vs Q E hg hr h => let ⟨t, h1, h2⟩ := hbody cdv A outer s H vs Q E hg hr h; ⟨t, h1.nox, h2⟩
def spLaw (K : PySem.W.Frag) : Sp := fun vs H Q _ => ∃ (a : Addr) (ns : List Int), vs = [.ref a] ∧ SqL K H a (ns.map V.int) ∧ ns.length ≤ 63 ∧ ∀ H', Q (.bl true) H'
structure Calls (P : Program) (w : World) (K : PySem.W.Frag) (mg : Str → Option Value) (base : Heap) (cA : Nat → Addr) : Prop where
  deck : ∃ f fd, FnOk P w K mg base CX0 1 f fd ["_law_script"] (spDeck K) ∧ Cal K mg "_law_deck" f fd ["_law_script"]
  any : ∃ f fd, (∀ d, FnOk P w K mg base CX0 (3 + d) f fd ["_law_deck_here", "_law_deep"] (spAny d)) ∧ Cal K mg "_law_any" f fd ["_law_deck_here", "_law_deep"]
  pos : ∃ f fd, FnOk P w K mg base CX0 3 f fd ["_law_it", "_law_far"] (spMade cA) ∧ Cal K mg "_law_by_position" f fd ["_law_it", "_law_far"]
  byn : ∃ f fd, FnOk P w K mg base CX0 3 f fd ["_law_it", "_law_far"] (spMade cA) ∧ Cal K mg "_law_by_name" f fd ["_law_it", "_law_far"]
  car : ∃ f fd, FnOk P w K mg base CX0 1 f fd ["_law_made"] (spCar cA) ∧ Cal K mg "_law_carried" f fd ["_law_made"]
  own : ∃ f fd, FnOk P w K mg base CX0 2 f fd ["_law_at", "_law_error"] (spOwn cA) ∧ Cal K mg "_law_is_own" f fd ["_law_at", "_law_error"]
  cau : ∃ f fd, FnOk P w K mg base CX0 4 f fd ["_law_way", "_law_it", "_law_far"] spCau ∧ Cal K mg "_law_caught" f fd ["_law_way", "_law_it", "_law_far"]
theorem ok_law {f : Addr} {fd : FuncData} (F : Fun K "law" "law" sLaw f fd) (B : BaseOk base) (e : Cls P w K mg base cA fA) (c : Calls P w K mg base cA) (mp : mg "repr" = none) (me : mg "enumerate" = none) (mr : mg "range" = none) :
    FnG P w K mg base CX0 7 f fd ["_law_script"] (spLaw K) := by
  obtain ⟨fD, fdD, GD, cD⟩ := c.deck
  obtain ⟨fN, fdN, GN, cN⟩ := c.any
  obtain ⟨fP, fdP, GP, cP⟩ := c.pos
  obtain ⟨fB, fdB, GB, cB⟩ := c.byn
  obtain ⟨fC, fdC, GC, cC⟩ := c.car
  obtain ⟨fO, fdO, GO, cO⟩ := c.own
  obtain ⟨fU, fdU, GU, cU⟩ := c.cau
  refine fnG0 F scLaw (fun vs H Q E h => ?_) (fun cdv A outer s H vs Q E hgd hr h => ?_)
  · obtain ⟨_, _, rfl, _⟩ := h
    rfl
  · obtain ⟨a, ns, rfl, hS, hl, q⟩ := h
    have nd := scLaw.nd
    have B' := B.mods
    refine ⟨_, pss_cons (ps_set (i := 1) nd rfl (.inl rfl) (pe_call GD (hr.mono (by decide)) (by rfl) cD.g cD.kp cD.b .nil pass0 (pa_cons (pv 0) pa_nil)))
      (pss_cons (ps_asg (pe_tup (pa_cons (pe_call (GN 3) hr (by rfl) cN.g cN.kp cN.b .nil pass0 (pa_cons (pv 1) (pa_cons pe_int pa_nil))) (pa_cons (pe_tup (pa_cons (pe_call (GN 2) (hr.mono (by decide)) (by rfl) cN.g cN.kp cN.b .nil pass0 (pa_cons (pv 1) (pa_cons pe_int pa_nil))) pa_nil)) (pa_cons (pe_call (GN 2) (hr.mono (by decide)) (by rfl) cN.g cN.kp cN.b .nil pass0 (pa_cons (pv 1) (pa_cons pe_int pa_nil))) (pa_cons (pe_lst (pa_cons (pe_call (GN 2) (hr.mono (by decide)) (by rfl) cN.g cN.kp cN.b .nil pass0 (pa_cons (pv 1) (pa_cons pe_int pa_nil))) pa_nil)) pa_nil))))) (pg_tup rfl (pgs_cons (pg_name (i := 2) nd rfl (.inr rfl)) (pgs_cons (pg_name (i := 3) nd rfl (.inr rfl)) (pgs_cons (pg_name (i := 4) nd rfl (.inl rfl)) (pgs_cons (pg_name (i := 5) nd rfl (.inl rfl)) pgs_nil))))))
      (pss_cons (ps_par (i := 6) (j := 7) rfl nd rfl rfl (by decide) rfl rfl (pa_cons (pe_call GP (hr.mono (by decide)) (by rfl) cP.g cP.kp cP.b .nil pass0 (pa_cons (pv 2) (pa_cons (pv 4) pa_nil))) (pa_cons (pe_call GB (hr.mono (by decide)) (by rfl) cB.g cB.kp cB.b .nil pass0 (pa_cons (pv 3) (pa_cons (pv 5) pa_nil))) pa_nil)) (by rfl))
      (pss_cons (ps_if (pt_cmpR (op_neD hr.units) (pe_lc (own := [("_law_it", 12)]) (g := gName 12) (te := tVar 12) rfl nd (pi_list (pe_call GC (hr.mono (by decide)) (by rfl) cC.g cC.kp cC.b .nil pass0 (pa_cons (pv 6) pa_nil))) (blkOk_by (N := nLaw) (sc := defScope sLaw) (by decide +kernel))
          (fun _ _ _ _ _ => pg_name (i := 12) nd rfl (Or.inl rfl)) (fun _ _ _ _ _ => pts_one (pt_cmpR op_ne (pe_callB (call_repr hgd hr.units B') (by rfl) mp PyProof.Rows.boot_repr (pa_cons (pv 12) pa_nil)) (pe_callB (call_repr hgd hr.units B') (by rfl) mp PyProof.Rows.boot_repr (pa_cons (pv 2) pa_nil)) (nomark _))) (fun _ _ _ _ _ => pv 12)) (pe_lst pa_nil) (nomark _)) (pss_one (ps_ret pe_bl)) pss_nil)
      (pss_cons (ps_if (pt_cmpR (op_neD hr.units) (pe_lc (own := [("_law_it", 12)]) (g := gName 12) (te := tVar 12) rfl nd (pi_list (pe_call GC (hr.mono (by decide)) (by rfl) cC.g cC.kp cC.b .nil pass0 (pa_cons (pv 7) pa_nil))) (blkOk_by (N := nLaw) (sc := defScope sLaw) (by decide +kernel))
          (fun _ _ _ _ _ => pg_name (i := 12) nd rfl (Or.inl rfl)) (fun _ _ _ _ _ => pts_one (pt_cmpR op_ne (pe_callB (call_repr hgd hr.units B') (by rfl) mp PyProof.Rows.boot_repr (pa_cons (pv 12) pa_nil)) (pe_callB (call_repr hgd hr.units B') (by rfl) mp PyProof.Rows.boot_repr (pa_cons (pv 3) pa_nil)) (nomark _))) (fun _ _ _ _ _ => pv 12)) (pe_lst pa_nil) (nomark _)) (pss_one (ps_ret pe_bl)) pss_nil)
      (pss_cons (ps_if (pt_cmpR op_ne (pe_callB (call_repr hgd hr.units B') (by rfl) mp PyProof.Rows.boot_repr (pa_cons (pe_tup (pa_cons (pe_ef (pe_ix ix_list (pv 6) pe_int (fun _ _ => rfl))) (pa_cons (pe_ef (pe_ix ix_list (pv 7) pe_int (fun _ _ => rfl))) pa_nil))) pa_nil)) (pe_callB (call_repr hgd hr.units B') (by rfl) mp PyProof.Rows.boot_repr (pa_cons (pe_tup (pa_cons (pv 4) (pa_cons (pv 5) pa_nil))) pa_nil)) (nomark _)) (pss_one (ps_ret pe_bl)) pss_nil)
      (pss_cons (ps_for PassesOwn.never rfl (pi_tup (pe_tup (pa_cons (pe_op op_cat (pv 6) (pe_lst (pa_cons (pe_new0 e.c24 (hr.mono (by decide))) (pa_cons (pe_new0 e.c25 (hr.mono (by decide))) (pa_cons (pe_new0 e.c26 (hr.mono (by decide))) (pa_cons (pe_new0 e.c27 (hr.mono (by decide))) (pa_cons (pe_new0 e.c28 (hr.mono (by decide))) pa_nil))))))) (pa_cons (pv 7) pa_nil)))) (pg_name (i := 8) nd rfl (.inl rfl))
        (pss_one (ps_for PassesOwn.never rfl (pi_enum (by rfl) me (pa_cons (pv 8) pa_nil)) (pg_tup rfl (pgs_cons (pg_name (i := 9) nd rfl (.inl rfl)) (pgs_cons (pg_name (i := 10) nd rfl (.inl rfl)) pgs_nil)))
          (pss_one (ps_if (pt_not (pt_val (pe_call GO (hr.mono (by decide)) (by rfl) cO.g cO.kp cO.b .nil pass0 (pa_cons (pv 9) (pa_cons (pv 10) pa_nil))))) (pss_one (ps_ret pe_bl)) pss_nil)))))
      (pss_cons (ps_for PassesOwn.never rfl (pi_range1 (by rfl) mr (pa_cons pe_int pa_nil)) (pg_name (i := 11) nd rfl (.inl rfl))
        (pss_one (ps_if (pt_cmpR op_ne (pe_callB (call_repr hgd hr.units B') (by rfl) mp PyProof.Rows.boot_repr (pa_cons (pe_call GU (hr.mono (by decide)) (by rfl) cU.g cU.kp cU.b .nil pass0 (pa_cons (pv 11) (pa_cons (pv 3) (pa_cons (pv 4) pa_nil)))) pa_nil)) (pe_callB (call_repr hgd hr.units B') (by rfl) mp PyProof.Rows.boot_repr (pa_cons (pe_tup (pa_cons (pv 11) (pa_cons (pv 3) pa_nil))) pa_nil)) (nomark _)) (pss_one (ps_ret pe_bl)) pss_nil)))
      (pss_one (ps_ret (pe_cmpR op_eq (pe_callB (call_repr hgd hr.units B') (by rfl) mp PyProof.Rows.boot_repr (pa_cons (pe_call GC (hr.mono (by decide)) (by rfl) cC.g cC.kp cC.b .nil pass0 (pa_cons (pv 6) pa_nil)) pa_nil)) (pe_callB (call_repr hgd hr.units B') (by rfl) mp PyProof.Rows.boot_repr (pa_cons (pe_op op_rep (pe_lst (pa_cons (pv 2) pa_nil)) pe_int) pa_nil)) (nomark _))))))))))), ?_⟩
    have sz : ∀ {n : Nat}, n ≤ 1000 → n ≤ sizeLine := fun h => line_le h
    refine ⟨.ref a, rfl, a, ns, rfl, hS, hl, fun H0 D C m0 dk0 nD nC => ?_⟩
    refine ⟨.ref D, rfl, D, C, rfl, dk0, fun v1 x1 H1 d1 z1 dk1 o1 => ?_⟩
    refine ⟨.ref D, rfl, D, C, rfl, dk1, fun v2 x2 H2 d2 z2 dk2 o2 => ⟨sz (by show 1 ≤ 1000; decide), fun t2 n2 => ?_⟩⟩
    refine ⟨.ref D, rfl, D, C, rfl, dk2.new n2, fun v3 x3 H3 d3 z3 dk3 o3 => ?_⟩
    refine ⟨.ref D, rfl, D, C, rfl, dk3, fun v4 x4 H4 d4 z4 dk4 o4 => ⟨sz (by show 1 ≤ 1000; decide), fun l4 n4 => ⟨sz (by show 4 ≤ 1000; decide), fun T nT => ?_⟩⟩⟩
    have oN : Oth D C H4 (upd (upd H4 l4 (.lst [v4])) T (.tup [v1, .ref t2, v3, .ref l4])) := (Oth.new n4).trans (Oth.new nT)
    have eT : upd (upd H4 l4 (.lst [v4])) T (.tup [v1, .ref t2, v3, .ref l4]) T = some (.tup [v1, .ref t2, v3, .ref l4]) := upd_same
    have e4 : upd (upd H4 l4 (.lst [v4])) T (.tup [v1, .ref t2, v3, .ref l4]) l4 = some (.lst [v4]) := upd_at nT upd_same
    generalize upd (upd H4 l4 (.lst [v4])) T (.tup [v1, .ref t2, v3, .ref l4]) = H5 at oN eT e4
    have o35 := o4.trans oN
    have o25 := o3.trans o35
    have e2 : H5 t2 = some (.tup [v2]) := o25 t2 _ (dk2.neD n2) (dk2.neC n2) upd_same
    have o25' := (Oth.new (o := .tup [v2]) (D := D) (C := C) n2).trans o25
    have f1 : Dat H5 x1 v1 := (d1.mono ((o2.trans o25').nw dk0) _ _).mono nw_sub _ _
    have f2 : Dat H5 (.tuple [x2]) (.ref t2) := ⟨t2, [v2], rfl, e2, v2, [], rfl, (d2.mono (o25'.nw dk1) _ _).mono nw_sub _ _, rfl⟩
    have f3 : Dat H5 x3 v3 := (d3.mono (o35.nw (dk2.new n2)) _ _).mono nw_sub _ _
    have f4 : Dat H5 (.list [x4]) (.ref l4) := ⟨l4, [v4], rfl, e4, v4, [], rfl, (d4.mono (oN.nw dk3) _ _).mono nw_sub _ _, rfl⟩
    have g2 : Sm 7 2405 (.tuple [x2]) := sm_tuple (xs := [x2]) (dp := 6) (B := 2400) fun y hy => by
      rw [List.mem_singleton.mp hy]
      exact z2
    have g4 : Sm 7 2405 (.list [x4]) := sm_list (xs := [x4]) (dp := 6) (B := 2400) fun y hy => by
      rw [List.mem_singleton.mp hy]
      exact z4
    have g1 : Sm 8 9600 x1 := z1
    have g3 : Sm 7 2405 x3 := z3.mono (by decide) (by decide)
    clear z1 z2 z3 z4 d1 d2 d3 d4 oN o35 o25 o25' o1 o2 o3 o4 e2 e4 dk0 dk1 dk2 dk3 dk4
    refine ⟨T, _, rfl, .inl (.inl eT), rfl, v1, _, rfl, .ref t2, _, rfl, v3, _, rfl, .ref l4, _, rfl, rfl, ?_⟩
    clear eT
    have k1 := Sm.line g1 (by decide) (by decide)
    have k2 := Sm.line g2 (by decide) (by decide)
    -- by position, by name
    refine ⟨v1, rfl, v3, rfl, v1, v3, rfl, fun pn as1 H6 m6 _ e6 ol6 => ?_⟩
    refine ⟨.ref t2, rfl, .ref l4, rfl, .ref t2, .ref l4, rfl, fun pf as2 H7 m7 _ e7 ol7 => ⟨.ref pn, .ref pf, rfl, ?_⟩⟩
    have m57 := m6.trans m7
    replace e6 := m7 _ _ e6
    replace ol6 := ol6.same m7
    replace f1 := f1.mono m57 _ _
    replace f2 := f2.mono m57 _ _
    replace f3 := f3.mono m57 _ _
    replace f4 := f4.mono m57 _ _
    clear m57 m6 m7
    have nil_eqv : PyData.eqv (.list []) (.list []) = true := by simp [PyData.eqv, PyData.eqvAll]
    -- what the ones by position carry
    refine ⟨.ref pn, rfl, pn, as1, v1, v3, rfl, e6, ol6, fun c8 H8 m8 _ e8 => ⟨c8, rfl, ⟨_, .inl (.inl e8)⟩, fun L nL => ?_⟩⟩
    refine lc_list (xs := List.replicate 24 v1) (fun i H' => Same H8 H' ∧ H' L = some (.lst [])) ⟨same_n nL, upd_same⟩ ?_ ?_ ?_
    · rintro i H' _ ⟨m', _⟩
      exact .inl (.inl (m' _ _ e8))
    · rintro i x H' hx ⟨m', e'⟩
      have ex : x = v1 := (List.mem_replicate.mp (List.mem_of_getElem? hx)).2
      subst ex
      have ff := f1.mono (m8.trans m') _ _
      refine ⟨rfl, x, rfl, x, x1, rfl, ff, k1.1, k1.2.1, k1.2.2, x, rfl, x, x1, rfl, ff, k1.1, k1.2.1, k1.2.2, rfl, _, rfl, ?_⟩
      rw [ne_self]
      exact iteF ⟨m', e'⟩
    rintro H9 ⟨m9, e9⟩
    refine ⟨Nat.zero_le _, fun p9 n9 => ⟨.list [], .list [], .lst (.inl (.inl (upd_at n9 e9))) .nil, .lst (.inl (.inl upd_same)) .nil, by rfl, by rfl, _, rfl, ?_⟩⟩
    rw [nil_eqv]
    refine iteF ?_
    have m79 := m8.trans (m9.trans (same_n (o := .lst []) n9))
    generalize upd H9 p9 (.lst []) = H10 at m79
    replace e6 := m79 _ _ e6
    replace ol6 := ol6.same m79
    replace e7 := m79 _ _ e7
    replace ol7 := ol7.same m79
    replace f1 := f1.mono m79 _ _
    replace f2 := f2.mono m79 _ _
    replace f3 := f3.mono m79 _ _
    replace f4 := f4.mono m79 _ _
    clear m79 m8 m9 e8 e9 n9 nL
    -- what the ones by name carry
    refine ⟨.ref pf, rfl, pf, as2, .ref t2, .ref l4, rfl, e7, ol7, fun c8 H8 m8 _ e8 => ⟨c8, rfl, ⟨_, .inl (.inl e8)⟩, fun L nL => ?_⟩⟩
    refine lc_list (xs := List.replicate 24 (.ref t2)) (fun i H' => Same H8 H' ∧ H' L = some (.lst [])) ⟨same_n nL, upd_same⟩ ?_ ?_ ?_
    · rintro i H' _ ⟨m', _⟩
      exact .inl (.inl (m' _ _ e8))
    · rintro i x H' hx ⟨m', e'⟩
      have ex : x = .ref t2 := (List.mem_replicate.mp (List.mem_of_getElem? hx)).2
      subst ex
      have ff := f2.mono (m8.trans m') _ _
      refine ⟨rfl, .ref t2, rfl, .ref t2, _, rfl, ff, k2.1, k2.2.1, k2.2.2, .ref t2, rfl, .ref t2, _, rfl, ff, k2.1, k2.2.1, k2.2.2, rfl, _, rfl, ?_⟩
      rw [ne_self]
      exact iteF ⟨m', e'⟩
    rintro H9 ⟨m9, e9⟩
    refine ⟨Nat.zero_le _, fun p9 n9 => ⟨.list [], .list [], .lst (.inl (.inl (upd_at n9 e9))) .nil, .lst (.inl (.inl upd_same)) .nil, by rfl, by rfl, _, rfl, ?_⟩⟩
    rw [nil_eqv]
    refine iteF ?_
    have m79 := m8.trans (m9.trans (same_n (o := .lst []) n9))
    generalize upd H9 p9 (.lst []) = H11 at m79
    replace e6 := m79 _ _ e6
    replace ol6 := ol6.same m79
    replace e7 := m79 _ _ e7
    replace ol7 := ol7.same m79
    replace f1 := f1.mono m79 _ _
    replace f2 := f2.mono m79 _ _
    replace f3 := f3.mono m79 _ _
    replace f4 := f4.mono m79 _ _
    clear m79 m8 m9 e8 e9 n9 nL
    -- their far ones
    have l1 : as1.length = 24 := ol6.len
    have l2 : as2.length = 24 := ol7.len
    obtain ⟨b1, hb1⟩ : ∃ b, as1[23]? = some b := ⟨_, List.getElem?_eq_getElem (by omega)⟩
    obtain ⟨b2, hb2⟩ : ∃ b, as2[23]? = some b := ⟨_, List.getElem?_eq_getElem (by omega)⟩
    obtain ⟨c1, u1, w1⟩ := ol6.get hb1 rfl
    obtain ⟨c2, u2, w2⟩ := ol7.get hb2 rfl
    have at1 : atI (as1.map V.ref) 23 = some (.ref b1) := atI_nat (j := 23) (by rw [List.getElem?_map, hb1]; rfl)
    have at2 : atI (as2.map V.ref) 23 = some (.ref b2) := atI_nat (j := 23) (by rw [List.getElem?_map, hb2]; rfl)
    have g34 : Sm 8 5000 (.tuple [x3, .list [x4]]) := (sm_tuple (xs := [x3, .list [x4]]) (dp := 7) (B := 2405) fun y hy => by
      rcases List.mem_cons.mp hy with h | h
      · rw [h]
        exact g3
      · rw [List.mem_singleton.mp h]
        exact g4).mono (by decide) (by simp)
    have k34 := Sm.line g34 (by decide) (by decide)
    refine ⟨.ref pn, rfl, pn, _, 23, .ref b1, rfl, rfl, .inl (.inl e6), at1, b1, cA 23, fA 23, c1, _, v3, rfl, e.c23.ec, e.c23.free2, u1, w1, by rfl, ?_⟩
    refine ⟨.ref pf, rfl, pf, _, 23, .ref b2, rfl, rfl, .inl (.inl e7), at2, b2, cA 23, fA 23, c2, _, .ref l4, rfl, e.c23.ec, e.c23.free2, u2, w2, by rfl, ?_⟩
    refine ⟨sz (by show 2 ≤ 1000; decide), fun t nt => ?_⟩
    have mt := same_n (o := .tup [v3, .ref l4]) nt
    have et : upd H11 t (.tup [v3, .ref l4]) t = some (.tup [v3, .ref l4]) := upd_same
    generalize upd H11 t (.tup [v3, .ref l4]) = H12 at mt et
    refine ⟨.ref t, .tuple [x3, .list [x4]], rfl, ⟨t, _, rfl, et, v3, _, rfl, f3.mono mt _ _, .ref l4, [], rfl, f4.mono mt _ _, rfl⟩, k34.1, k34.2.1, k34.2.2, ?_⟩
    refine ⟨v3, rfl, .ref l4, rfl, sz (by show 2 ≤ 1000; decide), fun t' nt' => ?_⟩
    have mt' := mt.trans (same_n (o := .tup [v3, .ref l4]) nt')
    have et' : upd H12 t' (.tup [v3, .ref l4]) t' = some (.tup [v3, .ref l4]) := upd_same
    generalize upd H12 t' (.tup [v3, .ref l4]) = H13 at mt' et'
    refine ⟨.ref t', .tuple [x3, .list [x4]], rfl, ⟨t', _, rfl, et', v3, _, rfl, f3.mono mt' _ _, .ref l4, [], rfl, f4.mono mt' _ _, rfl⟩, k34.1, k34.2.1, k34.2.2, rfl, _, rfl, ?_⟩
    rw [ne_self]
    refine iteF ?_
    have q6 := mt' _ _ e6
    have q7 := mt' _ _ e7
    have r6 := ol6.same mt'
    have r7 := ol7.same mt'
    replace f1 := f1.mono mt' _ _
    replace f2 := f2.mono mt' _ _
    replace f3 := f3.mono mt' _ _
    clear f4 mt mt' et et' nt nt' u1 u2 w1 w2 at1 at2 hb1 hb2 e6 e7 ol6 ol7
    -- the list by position with five more, the list by name
    refine ⟨.ref pn, rfl, fun a0 n0 => ?_⟩
    have i0 : upd H13 a0 (exo a0 (cA 24) none) a0 = some (exo a0 (cA 24) none) := upd_same
    have s0 := same_n (o := exo a0 (cA 24) none) n0
    generalize upd H13 a0 (exo a0 (cA 24) none) = J0 at i0 s0
    refine fun a1 n1 => ?_
    have i1 : upd J0 a1 (exo a1 (cA 25) none) a1 = some (exo a1 (cA 25) none) := upd_same
    have s1 := same_n (o := exo a1 (cA 25) none) n1
    generalize upd J0 a1 (exo a1 (cA 25) none) = J1 at i1 s1
    refine fun a2 n2 => ?_
    have i2 : upd J1 a2 (exo a2 (cA 26) none) a2 = some (exo a2 (cA 26) none) := upd_same
    have s2 := same_n (o := exo a2 (cA 26) none) n2
    generalize upd J1 a2 (exo a2 (cA 26) none) = J2 at i2 s2
    refine fun a3 n3 => ?_
    have i3 : upd J2 a3 (exo a3 (cA 27) none) a3 = some (exo a3 (cA 27) none) := upd_same
    have s3 := same_n (o := exo a3 (cA 27) none) n3
    generalize upd J2 a3 (exo a3 (cA 27) none) = J3 at i3 s3
    refine fun a4 n4 => ?_
    have i4 : upd J3 a4 (exo a4 (cA 28) none) a4 = some (exo a4 (cA 28) none) := upd_same
    have s4 := same_n (o := exo a4 (cA 28) none) n4
    generalize upd J3 a4 (exo a4 (cA 28) none) = J4 at i4 s4
    refine ⟨sz (by show 5 ≤ 1000; decide), fun p5 n5 => ?_⟩
    have i5 : upd J4 p5 (.lst [.ref a0, .ref a1, .ref a2, .ref a3, .ref a4]) p5 = some (.lst ([a0, a1, a2, a3, a4].map V.ref)) := upd_same
    have s5 := same_n (o := .lst [.ref a0, .ref a1, .ref a2, .ref a3, .ref a4]) n5
    generalize upd J4 p5 (.lst [.ref a0, .ref a1, .ref a2, .ref a3, .ref a4]) = J5 at i5 s5
    have s05 := s0.trans (s1.trans (s2.trans (s3.trans (s4.trans s5))))
    refine ⟨pn, p5, _, _, rfl, rfl, s05 _ _ q6, i5, sz (by simp only [List.length_map, l1]; exact Nat.le_of_ble_eq_true rfl), fun pm nm => ?_⟩
    rw [← List.map_append]
    have im : upd J5 pm (.lst ((as1 ++ [a0, a1, a2, a3, a4]).map V.ref)) pm = some (.lst ((as1 ++ [a0, a1, a2, a3, a4]).map V.ref)) := upd_same
    have sm := same_n (o := .lst ((as1 ++ [a0, a1, a2, a3, a4]).map V.ref)) nm
    generalize upd J5 pm (.lst ((as1 ++ [a0, a1, a2, a3, a4]).map V.ref)) = J6 at im sm
    refine ⟨.ref pf, rfl, sz (by show 2 ≤ 1000; decide), fun TT nTT => ?_⟩
    have iT : upd J6 TT (.tup [.ref pm, .ref pf]) TT = some (.tup [.ref pm, .ref pf]) := upd_same
    have sT := same_n (o := .tup [.ref pm, .ref pf]) nTT
    generalize upd J6 TT (.tup [.ref pm, .ref pf]) = J7 at iT sT
    have s57 := s5.trans (sm.trans sT)
    have s47 := s4.trans s57
    have s37 := s3.trans s47
    have s27 := s2.trans s37
    have s17 := s1.trans s27
    have s07 := s0.trans s17
    have okF : ListOk cA J7 pf := ListOk.of (s07 _ _ q7) (r7.same s07)
    have okN : ListOk cA J7 pm := by
      refine ⟨as1 ++ [a0, a1, a2, a3, a4], sT _ _ im, by simp [l1], fun i a h => ?_⟩
      by_cases hi : i < 24
      · rw [List.getElem?_append_left (by omega)] at h
        obtain ⟨fs, z⟩ := specs_cls (cA := cA) (it := v1) (far := v3) hi
        exact EvO.of ((r6.same s07).get h z)
      · obtain ⟨j, rfl⟩ : ∃ j, i = 24 + j := ⟨i - 24, by omega⟩
        rw [List.getElem?_append_right (by omega), l1, Nat.add_sub_cancel_left] at h
        have hj : j < 5 := (List.getElem?_eq_some_iff.mp h).1
        have z : j = 0 ∨ j = 1 ∨ j = 2 ∨ j = 3 ∨ j = 4 := by omega
        rcases z with rfl | rfl | rfl | rfl | rfl
        · cases h
          exact ⟨none, s17 _ _ i0, fun _ h => nomatch h⟩
        · cases h
          exact ⟨none, s27 _ _ i1, fun _ h => nomatch h⟩
        · cases h
          exact ⟨none, s37 _ _ i2, fun _ h => nomatch h⟩
        · cases h
          exact ⟨none, s47 _ _ i3, fun _ h => nomatch h⟩
        · cases h
          exact ⟨none, s57 _ _ i4, fun _ h => nomatch h⟩
    have f1' := f1.mono s07 _ _
    have f2' := f2.mono s07 _ _
    have q6' := s07 _ _ q6
    have r6' := r6.same s07
    clear s05 s57 s47 s37 s27 s17 s07 s0 s1 s2 s3 s4 s5 sm sT i0 i1 i2 i3 i4 i5 im n0 n1 n2 n3 n4 n5 nm nTT q6 q7 r6 r7 f1 f2 f3
    refine ⟨TT, rfl, ⟨_, .inl (.inl iT)⟩, for_tup (xs := [.ref pm, .ref pf]) (fun i σ Hc => ∃ y8 y9 y10 y11 y12 : Option V, σ = [some (.ref a), some (.ref D), some v1, some (.ref t2), some v3, some (.ref l4), some (.ref pn), some (.ref pf), y8, y9, y10, y11, y12] ∧ Same J7 Hc)
      ⟨_, _, _, _, _, rfl, Same.refl _⟩ ?_ ?_ ?_⟩
    · rintro i σ Hc _ ⟨_, _, _, _, _, _, mc⟩
      exact .inl (.inl (mc _ _ iT))
    · rintro i x σ Hc hx ⟨y8, y9, y10, y11, y12, rfl, mc⟩
      obtain ⟨pq, rfl, okq⟩ : ∃ pq, x = .ref pq ∧ ListOk cA J7 pq := by
        rcases List.mem_cons.mp (List.mem_of_getElem? hx) with h | h
        · exact ⟨pm, h, okN⟩
        · exact ⟨pf, List.mem_singleton.mp h, okF⟩
      obtain ⟨as, eq, lq, qq⟩ := okq.same mc
      refine ⟨.ref pq, rfl, pq, _, rfl, .inl (.inl eq), for_it (walk_enum (xs := as.map V.ref)) (fun j σ Hd => ∃ y9 y10 y11 y12 : Option V, σ = [some (.ref a), some (.ref D), some v1, some (.ref t2), some v3, some (.ref l4), some (.ref pn), some (.ref pf), some (.ref pq), y9, y10, y11, y12] ∧ Same Hc Hd) ⟨_, _, _, _, rfl, Same.refl _⟩ ?_ ?_ ?_⟩
      · rintro j σ Hd _ ⟨_, _, _, _, _, md⟩
        exact .inl (.inl (md _ _ eq))
      · rintro j x σ Hd H' hj ⟨y9, y10, y11, y12, rfl, md⟩ ⟨T2, xj, yj, rfl, nT2, rfl, ej, er⟩
        obtain ⟨b, hb, rfl⟩ : ∃ b, as[j]? = some b ∧ yj = .ref b := by
          have er : (as.map V.ref)[j]? = some yj := er
          rw [List.getElem?_map] at er
          cases z : as[j]? with
          | none => rw [z] at er; cases er
          | some b => rw [z] at er; cases er; exact ⟨b, rfl, rfl⟩
        cases ej
        have mT2 := same_n (o := .tup [.int (j : Nat), .ref b]) nT2
        have eo : EvO (upd Hd T2 (.tup [.int (j : Nat), .ref b])) b (cA j) := (qq j b hb).same (md.trans mT2)
        have jl : j < 29 := by
          have z := (List.getElem?_eq_some_iff.mp hb).1
          omega
        refine ⟨T2, _, rfl, .inl (.inl upd_same), rfl, .int (j : Nat), _, rfl, .ref b, _, rfl, rfl, ?_⟩
        refine ⟨.int (j : Nat), rfl, .ref b, rfl, b, j, rfl, jl, eo, fun He me => ⟨true, rfl, iteF ?_⟩⟩
        exact ⟨_, _, _, _, rfl, md.trans (mT2.trans me)⟩
      · rintro σ Hd ⟨y9, y10, y11, y12, rfl, md⟩
        exact ⟨_, _, _, _, _, rfl, mc.trans md⟩
    rintro σ Hc ⟨y8, y9, y10, y11, y12, rfl, mc⟩
    -- what is thrown
    refine ⟨7, rfl, by decide, by decide, for_range (lo := 0) (n := 7) (fun i σ Hd => ∃ y8 y9 y10 y11 y12 : Option V, σ = [some (.ref a), some (.ref D), some v1, some (.ref t2), some v3, some (.ref l4), some (.ref pn), some (.ref pf), y8, y9, y10, y11, y12] ∧ Same J7 Hd) ⟨_, _, _, _, _, rfl, mc⟩ ?_ ?_⟩
    · rintro i σ Hd hi ⟨y8, y9, y10, y11, y12, rfl, md⟩
      have gi : Sm 8 5000 (.tuple [.int (0 + (i : Int)), .tuple [x2]]) := (sm_tuple (xs := [.int (0 + (i : Int)), .tuple [x2]]) (dp := 7) (B := 2405) fun y hy => by
        rcases List.mem_cons.mp hy with h | h
        · rw [h]
          refine (sm_int (k := 1) (dp := 7) (by decide) (by omega) ?_).mono (by decide) (by decide)
          have z : (0 + (i : Int)).natAbs = i := by omega
          rw [z]
          have z2 : i = 0 ∨ i = 1 ∨ i = 2 ∨ i = 3 ∨ i = 4 ∨ i = 5 ∨ i = 6 := by omega
          rcases z2 with rfl | rfl | rfl | rfl | rfl | rfl | rfl <;> decide
        · rw [List.mem_singleton.mp h]
          exact g2).mono (by decide) (by simp)
      have ki := Sm.line gi (by decide) (by decide)
      refine ⟨.int (0 + (i : Int)), rfl, .ref t2, rfl, v3, rfl, i, .ref t2, v3, congrArg (fun z => [V.int z, .ref t2, v3]) (Int.zero_add _), hi, fun t Ht mt nt et => ?_⟩
      have ft := f2'.mono (md.trans mt) _ _
      have iv : V.int (i : Int) = V.int (0 + (i : Int)) := congrArg V.int (Int.zero_add _).symm
      refine ⟨.ref t, .tuple [.int (0 + (i : Int)), .tuple [x2]], rfl, ⟨t, _, rfl, et, .int i, _, rfl, iv, .ref t2, [], rfl, ft, rfl⟩, ki.1, ki.2.1, ki.2.2, ?_⟩
      refine ⟨.int (0 + (i : Int)), rfl, .ref t2, rfl, sz (by show 2 ≤ 1000; decide), fun t' nt' => ?_⟩
      have mt' := same_n (o := .tup [.int (0 + (i : Int)), .ref t2]) nt'
      refine ⟨.ref t', .tuple [.int (0 + (i : Int)), .tuple [x2]], rfl, ⟨t', _, rfl, upd_same, .int (0 + (i : Int)), _, rfl, rfl, .ref t2, [], rfl, ft.mono mt' _ _, rfl⟩, ki.1, ki.2.1, ki.2.2, rfl, _, rfl, ?_⟩
      rw [ne_self]
      exact iteF ⟨_, _, _, _, _, rfl, md.trans (mt.trans mt')⟩
    rintro σ Hd ⟨y8, y9, y10, y11, y12, rfl, md⟩
    -- all that was carried
    have gr : Sm 9 300000 (.list (List.replicate 24 x1)) := (sm_list (xs := List.replicate 24 x1) (dp := 8) (B := 9600) fun y hy => by
      rw [(List.mem_replicate.mp hy).2]
      exact g1).mono (by decide) (by simp)
    have kr := Sm.line gr (by decide) (by decide)
    have dr : ∀ {H' : Hp}, Same J7 H' → DatL H' (List.replicate 24 x1) (List.replicate 24 v1) := fun {H'} m => by
      have z : ∀ n : Nat, DatL H' (List.replicate n x1) (List.replicate n v1) := fun n => by
        induction n with
        | zero => exact rfl
        | succ n ih => exact ⟨v1, _, rfl, f1'.mono m _ _, ih⟩
      exact z 24
    refine ⟨.ref pn, rfl, pn, as1, v1, v3, rfl, md _ _ q6', r6'.same md, fun cc Hc mc _ ec => ?_⟩
    refine ⟨.ref cc, .list (List.replicate 24 x1), rfl, ⟨cc, _, rfl, ec, dr (md.trans mc)⟩, kr.1, kr.2.1, kr.2.2, ?_⟩
    refine ⟨v1, rfl, sz (by show 1 ≤ 1000; decide), fun p np => ⟨p, 24, [v1], rfl, rfl, upd_same, by decide, by decide, (by show 1 * 24 ≤ sizeLine; decide), fun r nr => ?_⟩⟩
    have fl : (List.replicate (24 : Int).toNat [v1]).flatten = List.replicate 24 v1 := by rfl
    rw [fl]
    have mr' := same_n (o := .lst [v1]) np
    have mr2 := same_n (o := .lst (List.replicate 24 v1)) nr
    refine ⟨.ref r, .list (List.replicate 24 x1), rfl, ⟨r, _, rfl, upd_same, dr (md.trans (mc.trans (mr'.trans mr2)))⟩, kr.1, kr.2.1, kr.2.2, rfl, ?_⟩
    rw [decide_eq_true rfl]
    exact q _
end
end K0
end

section
set_option maxHeartbeats 8000000
/-! what the written part says, asked at once; from it the law's def -/
namespace K0
open PySem PySem.Spec PyProof.Rows L2 KD
open He (ga ma fAd FnD SaysE eqO eqO_ok ba)
def cNames : List Str := ["BadWeb", "BadGrowth", "BadBook", "BadGarden", "BadRenaming", "BadNumber", "BadModulus", "BadRow", "BadAddress", "BadPlace", "BadWish", "BadMarks", "BadPlan", "BadCount", "BadKind", "BadTies", "BadTie", "BadShelf", "BadFacts", "BadText", "BadChange", "TooMany", "InUse", "Unkept", "NoneLeft", "Full", "LastKind", "NothingToUndo", "NothingToRedo"]
def cn (i : Nat) : Str := cNames.getD i ""
def cAof (K : PySem.W.Frag) (i : Nat) : Addr := ga K (cn i)
def fAof (K : PySem.W.Frag) (i : Nat) : Addr := ma K (ga K (cn i)) "__init__"
def eqB (a b : Option Bool) : Bool := decide (a = b)
theorem eqB_ok {a b : Option Bool} (h : eqB a b = true) : a = b := of_decide_eq_true h
def eqV (a b : Option Value) : Bool := decide (a = b)
theorem eqV_ok {a b : Option Value} (h : eqV a b = true) : a = b := of_decide_eq_true h
def ecB (K : PySem.W.Frag) (C fI : Addr) : Bool := PySem.W.excInitIn K C exTail "Exception.__new__" && (PySem.W.excOver K C exTail && (PySem.W.hasDictIn K C && (eqO (PySem.W.findIn K (.ref C) "__init__") (some (some (.ref fI))) &&
  (eqV (PySem.W.typeIn K (.ref fI)) (some (.type "function")) && (eqO (PySem.W.findIn K (.ref C) "__setattr__") (some (some (.builtin "object.__setattr__"))) && (eqO (PySem.W.findIn K (.ref C) "__getattribute__") (some (some (.builtin "BaseException.__getattribute__"))) &&
  (eqO (PySem.W.findIn K (.ref C) "__getattr__") (some none) && (eqB (PySem.W.subIn K (.ref C) (.type "BaseException")) (some true) && (eqB (PySem.W.mroIn K C (.type "object")) (some true) && (eqO (PySem.W.findIn K (.ref C) "__class__") (some (some (.builtin "object.__class__"))) &&
  (eqV (PySem.W.typeIn K (.ref C)) (some (.type "type")) && PySem.W.keepIn K (.ref C))))))))))))
theorem ecB_ok {K : PySem.W.Frag} {C fI : Addr} (c : ecB K C fI = true) : EC K C fI := by
  obtain ⟨c1, c⟩ := ba c
  obtain ⟨c2, c⟩ := ba c
  obtain ⟨c3, c⟩ := ba c
  obtain ⟨c4, c⟩ := ba c
  obtain ⟨c5, c⟩ := ba c
  obtain ⟨c6, c⟩ := ba c
  obtain ⟨c7, c⟩ := ba c
  obtain ⟨c8, c⟩ := ba c
  obtain ⟨c9, c⟩ := ba c
  obtain ⟨c10, c⟩ := ba c
  obtain ⟨c11, c⟩ := ba c
  obtain ⟨c12, c13⟩ := ba c
  exact ⟨c1, c2, c3, eqO_ok c4, eqV_ok c5, eqO_ok c6, eqO_ok c7, eqO_ok c8, eqB_ok c9, eqB_ok c10, eqO_ok c11, eqV_ok c12, c13⟩
/-- a class's name, its address, its __init__, what its instances hold -/
def clB (K : PySem.W.Frag) (i : Nat) (fs : List Str) : Bool := ecB K (cAof K i) (fAof K i) && (eqO (PySem.W.nsIn K mainGlobals (cn i)) (some (some (.ref (cAof K i)))) && fs.all fun f => eqO (PySem.W.findIn K (.ref (cAof K i)) f) (some none))
def fsOf : List (List Str) := [["thing"], ["thing"], ["thing"], ["thing"], ["thing"], ["thing"], ["thing"], ["thing"], ["thing"], ["thing"], ["thing"], ["thing"], ["thing"], ["thing"], ["thing"], ["thing"], ["thing"], ["thing"], ["thing"], ["at"], ["at"], ["most"], ["c"], ["wish", "n"], [], [], [], [], []]
def clsB (K : PySem.W.Frag) : Bool := (List.range 29).all fun i => clB K i (fsOf.getD i [])
theorem lt_range {n i : Nat} {p : Nat → Bool} (h : (List.range n).all p = true) (hi : i < n) : p i = true := List.all_eq_true.mp h i (List.mem_range.mpr hi)
theorem clsB_at {K : PySem.W.Frag} (c : clsB K = true) {i : Nat} (hi : i < 29) : clB K i (fsOf.getD i []) = true := lt_range c hi
theorem clB_ec {K : PySem.W.Frag} {i : Nat} {fs : List Str} (c : clB K i fs = true) : EC K (cAof K i) (fAof K i) := ecB_ok (ba c).1
theorem clB_gl {K : PySem.W.Frag} {i : Nat} {fs : List Str} (c : clB K i fs = true) : PySem.W.nsIn K mainGlobals (cn i) = some (some (.ref (cAof K i))) := eqO_ok (ba (ba c).2).1
theorem clB_no {K : PySem.W.Frag} {i : Nat} {fs : List Str} {f : Str} (c : clB K i fs = true) (h : f ∈ fs) : PySem.W.findIn K (.ref (cAof K i)) f = some none := eqO_ok (List.all_eq_true.mp (ba (ba c).2).2 f h)
/-- which class is a kind of which -/
def kitB1 (K : PySem.W.Frag) : Bool := (List.range 29).all fun i => (List.range 29).all fun j => eqB (PySem.W.kitOne K (.ref (cAof K i)) (.ref (cAof K j))) (some (decide (i = j)))
def kitB2 (K : PySem.W.Frag) : Bool := (List.range 29).all fun i => (List.range 29).all fun j => eqB (PySem.W.exmOne K (.ref (cAof K i)) (.ref (cAof K j))) (some (decide (i = j)))
def kitB3 (K : PySem.W.Frag) : Bool := (List.range 29).all fun i => eqB (PySem.W.kitOne K (.ref (cAof K i)) (.ref (ga K "GardenError"))) (some true) && (eqB (PySem.W.kitOne K (.ref (cAof K i)) (.type "Exception")) (some true) &&
  (eqB (PySem.W.kitAny K (.ref (cAof K i)) sixT) (some false) && eqB (PySem.W.exmOne K (.ref (cAof K i)) (.ref (ga K "GardenError"))) (some true)))
def cdB (K : PySem.W.Frag) : Bool := eqO (PySem.W.specialIn K (.builtin "object.__class__") "__get__") (some (some (.builtin "getset_descriptor.__get__"))) && eqB (PySem.W.takesIn K (.builtin "object.__class__")) (some true)
def bNames : List Str := ["int", "list", "max", "len", "range", "tuple", "repr", "enumerate", "isinstance", "Exception", "ValueError", "TypeError", "LookupError", "ArithmeticError", "RuntimeError", "AttributeError"]
def freeB (K : PySem.W.Frag) : Bool := bNames.all fun x => eqO (PySem.W.nsIn K mainGlobals x) (some none)
def fnd (p : Str × Option Str) (x q : Str) (st : Stmt) : FnD := ⟨p, x, q, defArgs st, defBody st, defScope st⟩
def fnL : List FnD := [fnd ("_law_deck", none) "_law_deck" "_law_deck" sDeck, fnd ("_law_draw", none) "_law_draw" "_law_draw" sDraw, fnd ("_law_pick", none) "_law_pick" "_law_pick" sPick, fnd ("_law_any", none) "_law_any" "_law_any" sAny, fnd ("_law_by_position", none) "_law_by_position" "_law_by_position" sPos, fnd ("_law_by_name", none) "_law_by_name" "_law_by_name" sByN, fnd ("_law_carried", none) "_law_carried" "_law_carried" sCar, fnd ("_law_classes", none) "_law_classes" "_law_classes" sCls, fnd ("_law_is_own", none) "_law_is_own" "_law_is_own" sOwn, fnd ("_law_thrown", none) "_law_thrown" "_law_thrown" sThr, fnd ("_law_caught", none) "_law_caught" "_law_caught" sCau, fnd ("law", none) "law" "law" sLaw]
def fnI : List FnD := [fnd ("BadWeb", some "__init__") "__init__" "BadWeb.__init__" (inClass (topS 2) 0), fnd ("BadGrowth", some "__init__") "__init__" "BadGrowth.__init__" (inClass (topS 3) 0), fnd ("BadBook", some "__init__") "__init__" "BadBook.__init__" (inClass (topS 4) 0), fnd ("BadGarden", some "__init__") "__init__" "BadGarden.__init__" (inClass (topS 5) 0), fnd ("BadRenaming", some "__init__") "__init__" "BadRenaming.__init__" (inClass (topS 6) 0), fnd ("BadNumber", some "__init__") "__init__" "BadNumber.__init__" (inClass (topS 9) 0), fnd ("BadModulus", some "__init__") "__init__" "BadModulus.__init__" (inClass (topS 10) 0), fnd ("BadRow", some "__init__") "__init__" "BadRow.__init__" (inClass (topS 11) 0), fnd ("BadAddress", some "__init__") "__init__" "BadAddress.__init__" (inClass (topS 12) 0), fnd ("BadPlace", some "__init__") "__init__" "BadPlace.__init__" (inClass (topS 13) 0), fnd ("BadWish", some "__init__") "__init__" "BadWish.__init__" (inClass (topS 14) 0), fnd ("BadMarks", some "__init__") "__init__" "BadMarks.__init__" (inClass (topS 15) 0), fnd ("BadPlan", some "__init__") "__init__" "BadPlan.__init__" (inClass (topS 16) 0), fnd ("BadCount", some "__init__") "__init__" "BadCount.__init__" (inClass (topS 17) 0), fnd ("BadKind", some "__init__") "__init__" "BadKind.__init__" (inClass (topS 18) 0), fnd ("BadTies", some "__init__") "__init__" "BadTies.__init__" (inClass (topS 19) 0), fnd ("BadTie", some "__init__") "__init__" "BadTie.__init__" (inClass (topS 20) 0), fnd ("BadShelf", some "__init__") "__init__" "BadShelf.__init__" (inClass (topS 21) 0), fnd ("BadFacts", some "__init__") "__init__" "BadFacts.__init__" (inClass (topS 22) 0), fnd ("BadText", some "__init__") "__init__" "BadText.__init__" (inClass (topS 7) 0), fnd ("BadChange", some "__init__") "__init__" "BadChange.__init__" (inClass (topS 24) 0), fnd ("TooMany", some "__init__") "__init__" "TooMany.__init__" (inClass (topS 8) 0), fnd ("InUse", some "__init__") "__init__" "InUse.__init__" (inClass (topS 28) 0), fnd ("Unkept", some "__init__") "__init__" "Unkept.__init__" (inClass (topS 25) 0), fnd ("NoneLeft", some "__init__") "__init__" "NoneLeft.__init__" (inClass (topS 23) 0), fnd ("Full", some "__init__") "__init__" "Full.__init__" (inClass (topS 26) 0), fnd ("LastKind", some "__init__") "__init__" "LastKind.__init__" (inClass (topS 27) 0), fnd ("NothingToUndo", some "__init__") "__init__" "NothingToUndo.__init__" (inClass (topS 29) 0), fnd ("NothingToRedo", some "__init__") "__init__" "NothingToRedo.__init__" (inClass (topS 30) 0)]
def keepB (K : PySem.W.Frag) : Bool := fnL.all (fun d => PySem.W.keepIn K (.ref (fAd K d.at_))) && fnI.all fun d => PySem.W.keepIn K (.ref (fAd K d.at_))
def gloB (K : PySem.W.Frag) : Bool := fnL.all (fun d => eqO (PySem.W.nsIn K mainGlobals d.at_.1) (some (some (.ref (ga K d.at_.1))))) && eqO (PySem.W.nsIn K mainGlobals "GardenError") (some (some (.ref (ga K "GardenError"))))
/-- all that the end leans on -/
structure Facts (K : PySem.W.Frag) : Prop where
  cls : clsB K = true
  k1 : kitB1 K = true
  k2 : kitB2 K = true
  k3 : kitB3 K = true
  cd : cdB K = true
  free : freeB K = true
  keep : keepB K = true
  glo : gloB K = true
  fl : SaysE [] fnL K
  fi : SaysE [] fnI K
theorem fun_at {K : PySem.W.Frag} {fns : List FnD} {p : Str × Option Str} {x q : Str} {st : Stmt} (c : SaysE [] fns K) (kp : fns.all (fun d => PySem.W.keepIn K (.ref (fAd K d.at_))) = true) (i : Nat) (h : fns[i]? = some (fnd p x q st)) :
    Fun K x q st (fAd K p) (fdOf K (fAd K p)) := by
  obtain ⟨oc, od, osl, kV, doc, pm, an, cdv, ct, l, hc⟩ := c.def_ i h
  have k := List.all_eq_true.mp kp _ (List.mem_of_getElem? h)
  have e : fdOf K (fAd K p) = _ := fdOf_eq l
  rw [e]
  exact fun_mk l hc k

section
variable {P : Program} {w : World} {K : PySem.W.Frag} {mg : Str → Option Value} {base h : Heap}
theorem mk_cls (X : K.In h) (G : h.Ns mainGlobals mg) (a : Facts K) : Cls P w K mg base (cAof K) (fAof K) where
  c0 := c0_ok (fun_at a.fi (ba a.keep).2 0 rfl) (clB_ec (clsB_at a.cls (i := 0) (by decide))) (PySem.W.mg_of X G (clB_gl (clsB_at a.cls (i := 0) (by decide)))) (clB_no (clsB_at a.cls (i := 0) (by decide)) (by decide))
  c1 := c1_ok (fun_at a.fi (ba a.keep).2 1 rfl) (clB_ec (clsB_at a.cls (i := 1) (by decide))) (PySem.W.mg_of X G (clB_gl (clsB_at a.cls (i := 1) (by decide)))) (clB_no (clsB_at a.cls (i := 1) (by decide)) (by decide))
  c2 := c2_ok (fun_at a.fi (ba a.keep).2 2 rfl) (clB_ec (clsB_at a.cls (i := 2) (by decide))) (PySem.W.mg_of X G (clB_gl (clsB_at a.cls (i := 2) (by decide)))) (clB_no (clsB_at a.cls (i := 2) (by decide)) (by decide))
  c3 := c3_ok (fun_at a.fi (ba a.keep).2 3 rfl) (clB_ec (clsB_at a.cls (i := 3) (by decide))) (PySem.W.mg_of X G (clB_gl (clsB_at a.cls (i := 3) (by decide)))) (clB_no (clsB_at a.cls (i := 3) (by decide)) (by decide))
  c4 := c4_ok (fun_at a.fi (ba a.keep).2 4 rfl) (clB_ec (clsB_at a.cls (i := 4) (by decide))) (PySem.W.mg_of X G (clB_gl (clsB_at a.cls (i := 4) (by decide)))) (clB_no (clsB_at a.cls (i := 4) (by decide)) (by decide))
  c5 := c5_ok (fun_at a.fi (ba a.keep).2 5 rfl) (clB_ec (clsB_at a.cls (i := 5) (by decide))) (PySem.W.mg_of X G (clB_gl (clsB_at a.cls (i := 5) (by decide)))) (clB_no (clsB_at a.cls (i := 5) (by decide)) (by decide))
  c6 := c6_ok (fun_at a.fi (ba a.keep).2 6 rfl) (clB_ec (clsB_at a.cls (i := 6) (by decide))) (PySem.W.mg_of X G (clB_gl (clsB_at a.cls (i := 6) (by decide)))) (clB_no (clsB_at a.cls (i := 6) (by decide)) (by decide))
  c7 := c7_ok (fun_at a.fi (ba a.keep).2 7 rfl) (clB_ec (clsB_at a.cls (i := 7) (by decide))) (PySem.W.mg_of X G (clB_gl (clsB_at a.cls (i := 7) (by decide)))) (clB_no (clsB_at a.cls (i := 7) (by decide)) (by decide))
  c8 := c8_ok (fun_at a.fi (ba a.keep).2 8 rfl) (clB_ec (clsB_at a.cls (i := 8) (by decide))) (PySem.W.mg_of X G (clB_gl (clsB_at a.cls (i := 8) (by decide)))) (clB_no (clsB_at a.cls (i := 8) (by decide)) (by decide))
  c9 := c9_ok (fun_at a.fi (ba a.keep).2 9 rfl) (clB_ec (clsB_at a.cls (i := 9) (by decide))) (PySem.W.mg_of X G (clB_gl (clsB_at a.cls (i := 9) (by decide)))) (clB_no (clsB_at a.cls (i := 9) (by decide)) (by decide))
  c10 := c10_ok (fun_at a.fi (ba a.keep).2 10 rfl) (clB_ec (clsB_at a.cls (i := 10) (by decide))) (PySem.W.mg_of X G (clB_gl (clsB_at a.cls (i := 10) (by decide)))) (clB_no (clsB_at a.cls (i := 10) (by decide)) (by decide))
  c11 := c11_ok (fun_at a.fi (ba a.keep).2 11 rfl) (clB_ec (clsB_at a.cls (i := 11) (by decide))) (PySem.W.mg_of X G (clB_gl (clsB_at a.cls (i := 11) (by decide)))) (clB_no (clsB_at a.cls (i := 11) (by decide)) (by decide))
  c12 := c12_ok (fun_at a.fi (ba a.keep).2 12 rfl) (clB_ec (clsB_at a.cls (i := 12) (by decide))) (PySem.W.mg_of X G (clB_gl (clsB_at a.cls (i := 12) (by decide)))) (clB_no (clsB_at a.cls (i := 12) (by decide)) (by decide))
  c13 := c13_ok (fun_at a.fi (ba a.keep).2 13 rfl) (clB_ec (clsB_at a.cls (i := 13) (by decide))) (PySem.W.mg_of X G (clB_gl (clsB_at a.cls (i := 13) (by decide)))) (clB_no (clsB_at a.cls (i := 13) (by decide)) (by decide))
  c14 := c14_ok (fun_at a.fi (ba a.keep).2 14 rfl) (clB_ec (clsB_at a.cls (i := 14) (by decide))) (PySem.W.mg_of X G (clB_gl (clsB_at a.cls (i := 14) (by decide)))) (clB_no (clsB_at a.cls (i := 14) (by decide)) (by decide))
  c15 := c15_ok (fun_at a.fi (ba a.keep).2 15 rfl) (clB_ec (clsB_at a.cls (i := 15) (by decide))) (PySem.W.mg_of X G (clB_gl (clsB_at a.cls (i := 15) (by decide)))) (clB_no (clsB_at a.cls (i := 15) (by decide)) (by decide))
  c16 := c16_ok (fun_at a.fi (ba a.keep).2 16 rfl) (clB_ec (clsB_at a.cls (i := 16) (by decide))) (PySem.W.mg_of X G (clB_gl (clsB_at a.cls (i := 16) (by decide)))) (clB_no (clsB_at a.cls (i := 16) (by decide)) (by decide))
  c17 := c17_ok (fun_at a.fi (ba a.keep).2 17 rfl) (clB_ec (clsB_at a.cls (i := 17) (by decide))) (PySem.W.mg_of X G (clB_gl (clsB_at a.cls (i := 17) (by decide)))) (clB_no (clsB_at a.cls (i := 17) (by decide)) (by decide))
  c18 := c18_ok (fun_at a.fi (ba a.keep).2 18 rfl) (clB_ec (clsB_at a.cls (i := 18) (by decide))) (PySem.W.mg_of X G (clB_gl (clsB_at a.cls (i := 18) (by decide)))) (clB_no (clsB_at a.cls (i := 18) (by decide)) (by decide))
  c19 := c19_ok (fun_at a.fi (ba a.keep).2 19 rfl) (clB_ec (clsB_at a.cls (i := 19) (by decide))) (PySem.W.mg_of X G (clB_gl (clsB_at a.cls (i := 19) (by decide)))) (clB_no (clsB_at a.cls (i := 19) (by decide)) (by decide))
  c20 := c20_ok (fun_at a.fi (ba a.keep).2 20 rfl) (clB_ec (clsB_at a.cls (i := 20) (by decide))) (PySem.W.mg_of X G (clB_gl (clsB_at a.cls (i := 20) (by decide)))) (clB_no (clsB_at a.cls (i := 20) (by decide)) (by decide))
  c21 := c21_ok (fun_at a.fi (ba a.keep).2 21 rfl) (clB_ec (clsB_at a.cls (i := 21) (by decide))) (PySem.W.mg_of X G (clB_gl (clsB_at a.cls (i := 21) (by decide)))) (clB_no (clsB_at a.cls (i := 21) (by decide)) (by decide))
  c22 := c22_ok (fun_at a.fi (ba a.keep).2 22 rfl) (clB_ec (clsB_at a.cls (i := 22) (by decide))) (PySem.W.mg_of X G (clB_gl (clsB_at a.cls (i := 22) (by decide)))) (clB_no (clsB_at a.cls (i := 22) (by decide)) (by decide))
  c23 := c23_ok (fun_at a.fi (ba a.keep).2 23 rfl) (clB_ec (clsB_at a.cls (i := 23) (by decide))) (PySem.W.mg_of X G (clB_gl (clsB_at a.cls (i := 23) (by decide)))) (clB_no (clsB_at a.cls (i := 23) (by decide)) (by decide)) (clB_no (clsB_at a.cls (i := 23) (by decide)) (by decide))
  c24 := c24_ok (fun_at a.fi (ba a.keep).2 24 rfl) (clB_ec (clsB_at a.cls (i := 24) (by decide))) (PySem.W.mg_of X G (clB_gl (clsB_at a.cls (i := 24) (by decide))))
  c25 := c25_ok (fun_at a.fi (ba a.keep).2 25 rfl) (clB_ec (clsB_at a.cls (i := 25) (by decide))) (PySem.W.mg_of X G (clB_gl (clsB_at a.cls (i := 25) (by decide))))
  c26 := c26_ok (fun_at a.fi (ba a.keep).2 26 rfl) (clB_ec (clsB_at a.cls (i := 26) (by decide))) (PySem.W.mg_of X G (clB_gl (clsB_at a.cls (i := 26) (by decide))))
  c27 := c27_ok (fun_at a.fi (ba a.keep).2 27 rfl) (clB_ec (clsB_at a.cls (i := 27) (by decide))) (PySem.W.mg_of X G (clB_gl (clsB_at a.cls (i := 27) (by decide))))
  c28 := c28_ok (fun_at a.fi (ba a.keep).2 28 rfl) (clB_ec (clsB_at a.cls (i := 28) (by decide))) (PySem.W.mg_of X G (clB_gl (clsB_at a.cls (i := 28) (by decide))))
theorem mk_kit (X : K.In h) (G : h.Ns mainGlobals mg) (a : Facts K) : Kit K mg (cAof K) (ga K "GardenError") where
  cd := ⟨eqO_ok (ba a.cd).1, eqB_ok (ba a.cd).2⟩
  gG := PySem.W.mg_of X G (eqO_ok (ba a.glo).2)
  kit := fun i j hi hj => eqB_ok (lt_range (lt_range a.k1 hi) hj)
  exm := fun i j hi hj => eqB_ok (lt_range (lt_range a.k2 hi) hj)
  kitG := fun i hi => eqB_ok (ba (lt_range a.k3 hi)).1
  kitE := fun i hi => eqB_ok (ba (ba (lt_range a.k3 hi)).2).1
  kitN := fun i hi => eqB_ok (ba (ba (ba (lt_range a.k3 hi)).2).2).1
  exmG := fun i hi => eqB_ok (ba (ba (ba (lt_range a.k3 hi)).2).2).2
theorem no_name (X : K.In h) (G : h.Ns mainGlobals mg) (a : Facts K) {x : Str} (hx : x ∈ bNames) : mg x = none := PySem.W.mg_none_of X G (eqO_ok (List.all_eq_true.mp a.free x hx))
theorem at_name (X : K.In h) (G : h.Ns mainGlobals mg) (a : Facts K) (i : Nat) {x q : Str} {st : Stmt} (hi : fnL[i]? = some (fnd (x, none) x q st)) : mg x = some (.ref (ga K x)) := PySem.W.mg_of X G (eqO_ok (List.all_eq_true.mp (ba a.glo).1 _ (List.mem_of_getElem? hi)))
theorem cal_of (X : K.In h) (G : h.Ns mainGlobals mg) (a : Facts K) (i : Nat) {x q : Str} {st : Stmt} {ps : List Str} (hi : fnL[i]? = some (fnd (x, none) x q st))
    (hb : ∀ (kV doc pm : Value) (an : Option Addr) (cdv ct : Value) (us : List Value), us.length = ps.length → bindArgs (PySem.W.fnOf x q (defArgs st) (defBody st) (defScope st) .none kV doc pm an cdv ct) ⟨us, []⟩ = pure (ps.zip us)) :
    Cal K mg x (ga K x) (fdOf K (ga K x)) ps :=
  ⟨at_name X G a i hi, List.all_eq_true.mp (ba a.keep).1 _ (List.mem_of_getElem? hi), (fun_at a.fl (ba a.keep).1 i hi).binds hb⟩
theorem mk_calls (X : K.In h) (G : h.Ns mainGlobals mg) (a : Facts K) : Calls P w K mg base (cAof K) := by
  have e : Cls P w K mg base (cAof K) (fAof K) := mk_cls X G a
  have k := mk_kit X G a
  have n : ∀ {x : Str}, x ∈ bNames → mg x = none := fun hx => no_name X G a hx
  have F := fun (i : Nat) {x q : Str} {st : Stmt} (hi : fnL[i]? = some (fnd (x, none) x q st)) => fun_at a.fl (ba a.keep).1 i hi
  have q0 := cal_of X G a 0 (ps := ["_law_script"]) rfl fun _ _ _ _ _ _ us hl => match us, hl with | [_], _ => rfl
  have q1 := cal_of X G a 1 (ps := ["_law_deck_here", "_law_many"]) rfl fun _ _ _ _ _ _ us hl => match us, hl with | [_, _], _ => rfl
  have q2 := cal_of X G a 2 (ps := ["_law_deck_here", "_law_some"]) rfl fun _ _ _ _ _ _ us hl => match us, hl with | [_, _], _ => rfl
  have q3 := cal_of X G a 3 (ps := ["_law_deck_here", "_law_deep"]) rfl fun _ _ _ _ _ _ us hl => match us, hl with | [_, _], _ => rfl
  have q4 := cal_of X G a 4 (ps := ["_law_it", "_law_far"]) rfl fun _ _ _ _ _ _ us hl => match us, hl with | [_, _], _ => rfl
  have q5 := cal_of X G a 5 (ps := ["_law_it", "_law_far"]) rfl fun _ _ _ _ _ _ us hl => match us, hl with | [_, _], _ => rfl
  have q6 := cal_of X G a 6 (ps := ["_law_made"]) rfl fun _ _ _ _ _ _ us hl => match us, hl with | [_], _ => rfl
  have q7 := cal_of X G a 7 (ps := ["_law_error"]) rfl fun _ _ _ _ _ _ us hl => match us, hl with | [_], _ => rfl
  have q8 := cal_of X G a 8 (ps := ["_law_at", "_law_error"]) rfl fun _ _ _ _ _ _ us hl => match us, hl with | [_, _], _ => rfl
  have q9 := cal_of X G a 9 (ps := ["_law_way", "_law_it", "_law_far"]) rfl fun _ _ _ _ _ _ us hl => match us, hl with | [_, _, _], _ => rfl
  have q10 := cal_of X G a 10 (ps := ["_law_way", "_law_it", "_law_far"]) rfl fun _ _ _ _ _ _ us hl => match us, hl with | [_, _, _], _ => rfl
  have G0 := ok_deck (P := P) (w := w) (base := base) (k := 0) (F 0 rfl) (n (by decide)) (n (by decide))
  have G1 := ok_draw (P := P) (w := w) (base := base) (k := 0) (F 1 rfl) (n (by decide)) (n (by decide))
  have G2 := ok_pick (F 2 rfl) G1 q1 (n (by decide))
  have G3 := ok_any (F 3 rfl) q3 (G1.mono (by decide : 0 + 1 ≤ 2)) q1 G2 q2 (n (by decide)) (n (by decide)) (n (by decide))
  have G6 := ok_car (F 6 rfl) e
  have G7 := ok_cls (F 7 rfl) e k (n (by decide))
  have G8 := ok_own (F 8 rfl) e k (n (by decide)) (n (by decide)) G7 q7.g q7.kp q7.b (n (by decide)) (n (by decide)) (n (by decide)) (n (by decide)) (n (by decide)) (n (by decide)) (n (by decide))
  have G9 := ok_thr (F 9 rfl) e
  have G10 := ok_cau (F 10 rfl) e k (n (by decide)) G9 q9.g q9.kp q9.b
  exact ⟨⟨_, _, G0, q0⟩, ⟨_, _, G3, q3⟩, ⟨_, _, ok_pos (F 4 rfl) e, q4⟩, ⟨_, _, ok_byn (F 5 rfl) e, q5⟩, ⟨_, _, G6, q6⟩, ⟨_, _, G8, q8⟩, ⟨_, _, G10, q10⟩⟩
theorem end_law {fa : Addr} (X : K.In h) (G : h.Ns mainGlobals mg) (hfa : mg "law" = some (.ref fa)) (a : Facts K) :
    ∃ fd : FuncData, (∀ (s : Shared) (u : Value), BindsTo s fd ⟨[u], []⟩ [("_law_script", u)]) ∧ ∀ base : Heap, K.In base → base.Ns mainGlobals mg → BaseOk base → FnG P w K mg base CX0 7 fa fd ["_law_script"] (spLaw K) := by
  have e := hfa.symm.trans (at_name X G a 11 rfl)
  cases e
  have F := fun_at a.fl (ba a.keep).1 11 rfl
  refine ⟨fdOf K (ga K "law"), fun s u => ?_, fun base X' G' B => ok_law F B (mk_cls X G a) (mk_calls X G a) (no_name X G a (by decide)) (no_name X G a (by decide)) (no_name X G a (by decide))⟩
  obtain ⟨oc, od, kV, doc, pm, an, cdv, ct, osl, e2, _⟩ := F.ex
  have e3 : fdOf K (ga K "law") = _ := e2
  rw [e3]
  exact .of_eq rfl
end
end K0
end

section
open PySem PySem.W PyProof.Rows
set_option maxHeartbeats 0
open_top hd for PySem.Challenge.rw_manydeep_k00_errors_by_position_and_name
end

section
set_option maxHeartbeats 0
open PySem PySem.W PyProof.Rows
theorem PySem.Challenge.cw_manydeep_k00_errors_by_position_and_name_holds : PySem.Challenge.rw_manydeep_k00_errors_by_position_and_name.Holds :=
  hd (by
  k_fill
  refine KD.walk_ofG (l := PySem.Challenge.rw_manydeep_k00_errors_by_position_and_name) (n := 63) (k := 7) (x := "_law_script") (CX := fun _ => L2.CX0) (sp := fun w => K0.spLaw ((hd.heap_39 w.params))) rfl (by decide) rfl (by decide) ⟨rfl, by decide, by decide⟩ (fun w h Y => PySem.W.kIn_of Y) ?F ?S ?E
  case F =>
    intro w mg fa h KX G hmg
    have a : K0.Facts (hd.heap_39 w.params) := by
      refine' ⟨?cls, ?k1, ?k2, ?k3, ?cd, ?free, ?keep, ?glo, ?fl, ?fi⟩
      case cls => kernel_rfl
      case k1 => kernel_rfl
      case k2 => kernel_rfl
      case k3 => kernel_rfl
      case cd => kernel_rfl
      case free => kernel_rfl
      case keep => kernel_rfl
      case glo => kernel_rfl
      case fl => unfold He.SaysE; kernel_rfl
      case fi => unfold He.SaysE; kernel_rfl
    exact K0.end_law KX G hmg a
  case S =>
    intro w H a ns hl _ _ hS
    exact ⟨a, ns, rfl, hS, hl, fun _ => rfl⟩
  case E => exact fun _ _ _ _ _ z => z)
end
