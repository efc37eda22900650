import PyProof.Rows.All
import Wide.All
import OpenK.AllK
import Wide.FinOn
import HandS.ForMost
import HandS.TupAny
import HandS.IsInst
import HandS.More
import HandS.Style
import HandS.Wide
import HandS.Dict
import HandS.TupLe
import HandS.SortRule
import PyProof.TupleOfSeq
import HandS.Zip
import HandS.SetFor
import PyProof.ReprBulk
import PyProof.Rows.StrIntSpec
import PyProof.Rows.StrJoinMade
import PyProof.Rows.StrDigitsNeg
import KE.KDictKeyed
import KE.KDictSum
import HandS.Small
import KE.KDictCopyH
import HandS.Flow
import HandS.TupMul
import HandS.Text
import KE.GoesMore
import PyProof.EnumMake
import HandS.WideBits
import PySem.Challenge.RW_changewise_k25_whole_one_change_behind_t
set_option Elab.async false
set_option linter.all false
set_option maxRecDepth 100000
set_option maxHeartbeats 4000000
namespace Z
open PySem PySem.Spec PyProof.Rows L2
def NoG (A : Around) : Prop := A.guards = some []
theorem NoG.deeper {A : Around} {env : Env} (h : NoG A) : NoG (A.deeper env) := h
structure GOk (P : Program) (w : World) (K : PySem.W.Frag) (mg : Str → Option Value) (base : Heap) (k : Nat) (f : Addr) (fd : FuncData) (ps : List Str) (sp : Sp) : Prop where
  len : ∀ vs H Q E, sp vs H Q E → vs.length = ps.length
  run : ∀ (A : Around), NoG A → ∀ (outer : List Env) (s : Shared) (H : Hp) (args : Args) (us : List Value) (vs : List V) (Q : VK) (E : XK), Room k A → Env0 P w K mg base A outer s H →
    BindsTo s fd args (ps.zip us) → Vals vs us → sp vs H Q E → codeAny (model P w) A (.call (.ref f) args) (CR CX0 outer P w H s Q E) s
theorem GOk.of {P : Program} {w : World} {K : PySem.W.Frag} {mg : Str → Option Value} {base : Heap} {k : Nat} {f : Addr} {fd : FuncData} {ps : List Str} {sp : Sp} (F : FnOk P w K mg base CX0 k f fd ps sp) : GOk P w K mg base k f fd ps sp :=
  ⟨F.len, fun A _ => F.run A⟩
section
variable {X : Cx} {k : Nat} {f : Addr} {fd : FuncData} {ps : List Str} {sp : Sp} {dvs : List V} {ds : List Value} {x : Str} {p pos : Pos} {e : Expr} {es : List Expr} {t : TA}
/-- f(e, ..) -/
theorem pe_callG (F : GOk X.prog X.w X.K X.mg X.base k f fd ps sp) (ng : NoG X.A) (hr : Room k X.A) (hg : Gl X x) (hm : X.mg x = some (.ref f)) (hk : PySem.W.keepIn X.K (.ref f) = true) (hb : Binds X.K fd ps ds) (hd : Vals dvs ds)
    (ha : PA X (e :: es) t) (hdb : (x == ("__debug__" : Str)) = false := by decide) (he : starEach (e :: es) X.env = (false, eval e X.env) :: starEach es X.env := by rfl) (hpl : (backTo pos (starEach es X.env)).any (·.1) = false := by rfl) :
    PE X (.Call (.Name x p) (e :: es) [] pos) (tCall sp dvs E0 t) := by
  constructor
  intro pins s σ H Q I h
  apply wpAny_Call_Name_kw
  apply ld_glob I hg hm ?_ hdb
  apply PySem.W.callWith_K (h₀ := X.base) I.ok.mod.kin hk ?_ he hpl
  refine thn (ha.run pos pins s σ H _ I h) ?_
  rintro us s1 ⟨vs, H1, I1, r, q⟩
  refine ⟨I1.kIn, ?_⟩
  have r2 := r.append hd
  have q' : sp (vs ++ dvs) H1 Q E0 := q
  have hl : (us ++ ds).length = ps.length := r2.length.symm.trans (F.len _ _ _ _ q')
  refine wpAny_call (codeAny_mono (F.run X.A ng X.stack s1 H1 _ (us ++ ds) _ Q E0 hr I1.env0 (hb s1 us I1.kIn hl) r2 q') ?_)
  intro z s' hq
  match z, hq with
  | .error _, hq => exact False.elim hq
  | .ok (.ret _), hq => exact I1.after hq
  | .ok .next, hq => exact False.elim hq
  | .ok .brk, hq => exact False.elim hq
  | .ok .cont, hq => exact False.elim hq
end
section
variable {P : Program} {w : World} {K : PySem.W.Frag} {mg : Str → Option Value} {base : Heap}
/-- a def by its body -/
theorem GOk.mk' {x qual : Str} {st : Stmt} {f : Addr} {fd : FuncData} {N ps : List Str} {k : Nat} {sp : Sp} (F : Fun K x qual st f fd) (S : FnScope N ps (defScope st)) (len : ∀ vs H Q E, sp vs H Q E → vs.length = ps.length)
    (body : ∀ (cdv : Value) (A : Around) (outer : List Env) (s : Shared) (H : Hp) (vs : List V) (Q : VK) (E : XK), NoG (A.deeper (envOfC qual (defScope st) s.heap.objs.size f cdv)) → Room k (A.deeper (envOfC qual (defScope st) s.heap.objs.size f cdv)) → sp vs H Q E →
      ∃ t, PSs (cxOf CX0 P w K mg base N qual (defScope st) f cdv A outer s H E).nox (defBody st) t ∧ t { nx := fun _ H' => Q .non H', rt := Q } (start N vs) H) : GOk P w K mg base (k + 1) f fd ps sp := by
  obtain ⟨oc, od, kV, doc, pm, an, cdv, ct, osl, efd, lk, hcd⟩ := F.ex
  subst efd
  constructor
  · exact len
  intro A ng outer s H args us vs Q E hr e0 hb r hsp
  have KX : K.In s.heap := e0.mod.kin.keeps fun b o z => (e0.bs b o z).1
  have lim : s.heap.NoLimit := e0.mod.nolimit.keeps fun b o z => (e0.bs b o z).1
  apply codeAny_call_function hr.depth (KX _ _ lk) rfl S.co S.gen rfl (PySem.W.codeRec_of KX hcd)
  apply hb _ _ _ _
  refine wpAny_newFunctionEnv_cells S.kind ?_ ?_
  · rintro ⟨n, v⟩ hy
    cases S.par n (List.of_mem_zip hy).1 with
    | inl z => exact .inl z
    | inr z => exact .inr ⟨z, PySem.W.cellsFrom_some _ _ _ (.inl z)⟩
  intro env he s1 x
  subst he
  refine ⟨lim.keeps x.toInCall.keep, codeAny_func ?_⟩
  obtain ⟨t, ht, hq⟩ := body cdv A outer s H vs Q E (NoG.deeper ng) (hr.deeper _) hsp
  have I := inv_start (CX := CX0) (E := E) S hr.hd e0 (len _ _ _ _ hsp) r x
  refine wpAny_mono (ht.nox.run [] s1 _ H _ I hq) ?_ (fun _ _ z => z)
  intro fl s' hs
  match fl, hs with
  | .ret u, hs =>
    obtain ⟨v, σ', H', J, rv, q⟩ := hs
    exact ⟨v, H', J.os, J.bare, J.base, J.hok, rv, q⟩
  | .next, hs =>
    obtain ⟨σ', H', J, q⟩ := hs
    exact ⟨V.non, H', J.os, J.bare, J.base, J.hok, rfl, q⟩
  | .brk, hs =>
    obtain ⟨_, _, _, q⟩ := hs
    exact False.elim q
  | .cont, hs =>
    obtain ⟨_, _, _, q⟩ := hs
    exact False.elim q
end
end Z
namespace Z
open PySem PySem.Spec PyProof.Rows L2
/-- a list that is read, its object in full -/
def SqM (K : PySem.W.Frag) (H : Hp) (a : Addr) (xs : List V) : Prop := Rd H a (.lst xs) ∨ ∃ (its : Array Value) (n : Nat), K.lookup a = some { cls := .type "list", data := .seq its n } ∧ its.size ≤ sizeLine ∧ Vals xs its.toList
theorem SqM.of {K : PySem.W.Frag} {H : Hp} {a : Addr} {xs : List V} (h : H a = some (.lst xs)) : SqM K H a xs := .inl (.inl h)
theorem SqM.seq {K : PySem.W.Frag} {H : Hp} {a : Addr} {xs : List V} (h : SqM K H a xs) : SqL K H a xs := by
  rcases h with h | ⟨its, n, h1, h2, h3⟩
  · exact .inl h
  · exact .inr ⟨_, its, n, h1, rfl, rfl, rfl, h2, h3⟩
theorem sameM {K : PySem.W.Frag} {H H' : Hp} {a : Addr} {xs : List V} (e : Same H H') (h : SqM K H a xs) : SqM K H' a xs := by
  rcases h with (h | ⟨o, h⟩) | h
  · exact .inl (.inl (e _ _ h))
  · exact .inl (.inr ⟨o, e _ _ h⟩)
  · exact .inr h
theorem listM {X : Cx} {pins : List (Addr × Obj)} {σ : L2.St} {H : Hp} {s : Shared} {a : Addr} {xs : List V} (I : Inv X pins σ H s) (h : SqM X.K H a xs) :
    ∃ (its : List Value) (n : Nat), Vals xs its ∧ s.heap.get? a = some { cls := .type "list", data := .seq its.toArray n } ∧ xs.length ≤ sizeLine := by
  rcases h with h | ⟨its, n, hk, hz, r⟩
  · obtain ⟨z, its, n, r, e⟩ := h.ok I.hok
    exact ⟨its, n, r, e, z⟩
  · refine ⟨its.toList, n, r, by simpa using I.kIn a _ hk, ?_⟩
    rw [r.length]
    simpa using hz
theorem only_core {P : Program} {w : World} {K : PySem.W.Frag} {mg mb : Str → Option Value} {k : Nat} {fa a : Addr} {fd : FuncData} {x : Str} {sp : Sp} {s1 : Shared} {vs : List Value} {ns : List Int}
    (KX : K.In s1.heap) (hns : s1.heap.Ns mainGlobals mg) (hb : s1.heap.Ns builtinsNs mb) (hbb : ∀ y : Str, y ≠ "__name__" → mb y = bootBuiltins y) (hlim : s1.heap.NoLimit) (hg : s1.gens = #[])
    (ha : s1.heap.get? a = some { cls := .type "list", data := .seq vs.toArray }) (hr : Room k callerA)
    (F : ∀ base : Heap, K.In base → base.Ns mainGlobals mg → GOk P w K mg base k fa fd [x] sp) (hbind : ∀ (s : Shared) (u : Value), BindsTo s fd ⟨[u], []⟩ [(x, u)])
    (hsp : ∀ G : Hp, Only G → SqM K G a (ns.map V.int) → sp [.ref a] G (fun v _ => v = .bl true) E0) (G : Hp) (hO : Only G) (hS : SqM K G a (ns.map V.int)) (hok : HOk P w G s1.heap) (hA : ∀ b, G b ≠ none → b = a) (hK : G a ≠ none → K.lookup a = none) :
    codeAny (model P w) callerA (.call (.ref fa) ⟨[.ref a], []⟩) (fun r s' => r = .ok (.ret (.bool true)) ∧ OldK s1.heap s'.heap ∧ s'.os = s1.os ∧ AllBare s'.gens) s1 := by
  have noA {b : Addr} {o : Obj} {es : Array DictEntry} {ep : Nat} (e : s1.heap.get? b = some o) (d : o.data = .dict es ep) : G b = none := by
    cases q : G b with
    | none => rfl
    | some u =>
      obtain rfl : b = a := hA b fun z => nomatch q.symm.trans z
      rw [ha] at e
      cases e
      exact nomatch (show Data.seq vs.toArray _ = Data.dict es ep from d)
  have nsK {b : Addr} {m : Str → Option Value} (h : s1.heap.Ns b m) : (hidT s1.heap G).Ns b m := by
    obtain ⟨o, es, ep, e, d, r⟩ := h
    exact ⟨o, es, ep, hidT_get e (noA e d), d, r⟩
  have hKb : K.In (hidT s1.heap G) := by
    intro b o e
    refine hidT_get (KX b o e) ?_
    cases q : G b with
    | none => rfl
    | some u =>
      obtain rfl : b = a := hA b fun z => nomatch q.symm.trans z
      rw [hK fun z => nomatch q.symm.trans z] at e
      cases e
  have hM : Mod K mg (hidT s1.heap G) := by
    obtain ⟨mc, h1, h2⟩ := hlim
    exact ⟨hKb, nsK hns, ⟨mb, nsK hb, hbb⟩, ⟨mc, nsK h1, h2⟩⟩
  have e0 : Env0 P w K mg (hidT s1.heap G) callerA [] s1 G := {
    frames := rfl, mod := hM, bs := fun _ _ e => of_hidT e, bsz := Nat.le_of_eq (hidT_size _ _), funs := trivial,
    frf := (fun b hb => nomatch (show b ∈ ([] : List Addr) from hb)), hok := hok, bare := .of_eq hg }
  have hrun := (F _ hKb (nsK hns)).run callerA rfl [] s1 G ⟨[.ref a], []⟩ [.ref a] [.ref a] _ _ hr e0 (hbind s1 (.ref a)) (.cons rfl .nil) (hsp G hO hS)
  refine codeAny_mono hrun ?_
  intro r s' h
  match r, h with
  | .error _, h => exact False.elim h
  | .ok .next, h => exact False.elim h
  | .ok .brk, h => exact False.elim h
  | .ok .cont, h => exact False.elim h
  | .ok (.ret u), ⟨v, H', os, bare, un, hok', r', q⟩ =>
    cases (show v = .bl true from q)
    cases (show u = Value.bool true from r')
    refine ⟨rfl, OldK.of_keep ?_, os, bare⟩
    intro b o e
    have nin : b ∉ ([] : List Addr) := fun z => nomatch z
    cases q : G b with
    | none => exact un.keep b o e q nin nin
    | some u =>
      rcases hO b with z | ⟨ob, xs, z⟩
      · exact nomatch q.symm.trans z
      · have e1 := (hok b _ z).1
        have e2 := (hok' b _ (un.frzs b ob _ z)).1
        cases e.symm.trans e1
        exact e2
theorem law_callG {P : Program} {w : World} {K : PySem.W.Frag} {mg mb : Str → Option Value} {k : Nat} {fa a : Addr} {fd : FuncData} {x : Str} {sp : Sp} {s1 : Shared} {vs : List Value} {ns : List Int}
    (KX : K.In s1.heap) (hns : s1.heap.Ns mainGlobals mg) (hb : s1.heap.Ns builtinsNs mb) (hbb : ∀ y : Str, y ≠ "__name__" → mb y = bootBuiltins y) (hlim : s1.heap.NoLimit) (hg : s1.gens = #[])
    (ha : s1.heap.get? a = some { cls := .type "list", data := .seq vs.toArray }) (hi : IntsAre vs ns) (hl : ns.length ≤ sizeLine) (hr : Room k callerA)
    (F : ∀ base : Heap, K.In base → base.Ns mainGlobals mg → GOk P w K mg base k fa fd [x] sp) (hbind : ∀ (s : Shared) (u : Value), BindsTo s fd ⟨[u], []⟩ [(x, u)])
    (hsp : ∀ G : Hp, Only G → SqM K G a (ns.map V.int) → sp [.ref a] G (fun v _ => v = .bl true) E0) :
    codeAny (model P w) callerA (.call (.ref fa) ⟨[.ref a], []⟩) (fun r s' => r = .ok (.ret (.bool true)) ∧ OldK s1.heap s'.heap ∧ s'.os = s1.os ∧ AllBare s'.gens) s1 := by
  have rv := vals_ints hi
  have core := only_core (P := P) (w := w) (ns := ns) KX hns hb hbb hlim hg ha hr F hbind hsp
  cases hk : K.lookup a with
  | some o =>
    cases (KX a o hk).symm.trans ha
    refine core (fun _ => none) (fun _ => .inl rfl) (.inr ⟨vs.toArray, _, hk, ?_, by simpa using rv⟩) (fun b u z => nomatch (show (none : Option HO) = some u from z)) (fun b z => absurd rfl z) (fun z => absurd rfl z)
    rw [List.size_toArray, hi.length]
    exact hl
  | none =>
    have at_a {u : HO} : (if a = a then some u else none) = some u := if_pos rfl
    refine core (fun b => if b = a then some (.frz { cls := .type "list", data := .seq vs.toArray } (.lst (ns.map V.int))) else none) ?_ (.inl (.inr ⟨_, if_pos rfl⟩)) ?_ ?_ (fun _ => hk)
    · intro b
      by_cases e : b = a
      · exact .inr ⟨_, _, if_pos e⟩
      · exact .inl (if_neg e)
    · intro b u z
      by_cases e : b = a
      · subst e
        have z2 : some (HO.frz { cls := .type "list", data := .seq vs.toArray } (.lst (ns.map V.int))) = some u := (if_pos rfl).symm.trans z
        cases z2
        exact ⟨ha, (by rw [List.length_map]; exact hl), vs, _, rv, ha⟩
      · exact nomatch (if_neg e).symm.trans z
    · intro b z
      by_cases e : b = a
      · exact e
      · exact absurd (if_neg e) z
theorem walkG {l : PySem.W.OpenLaw} {k : Nat} {q : Program} {loose : List Str} {XP : (Str → Option Value) → Heap → Prop} {YP : World → Heap → Prop} {d : DefRec} {K : Params → PySem.W.Frag} {sp : PySem.W.Frag → Sp} {x : Str}
    (hn : l.most = some 63) (hdf : d.params.defaults = []) (hr : Room k callerA) (hY : ∀ (w : World) (h : Heap), YP w h → (K w.params).In h)
    (F : ∀ (w : World) (mg : Str → Option Value) (fa : Addr) (h : Heap), (K w.params).In h → h.Ns mainGlobals mg → mg d.name = some (.ref fa) →
      ∃ fd : FuncData, (∀ (s : Shared) (u : Value), BindsTo s fd ⟨[u], []⟩ [(x, u)]) ∧ ∀ base : Heap, (K w.params).In base → base.Ns mainGlobals mg → GOk l.prog w (K w.params) mg base k fa fd [x] (sp (K w.params)))
    (hsp : ∀ (K : PySem.W.Frag) (G : Hp) (a : Addr) (ns : List Int), ns.length ≤ 63 → SqM K G a (ns.map V.int) → sp K [.ref a] G (fun v _ => v = .bl true) E0) :
    PySem.W.WalkO q loose XP YP l.row.toRowW d [] (fun f vs => PySem.call f vs) := by
  refine Att.attach_call hn hdf ?_
  intro w s₀ s1 mg mb fa o pm cd doc a vs ns G Y ho hd hcd hmg hobj hints hlen hg
  obtain ⟨fd, hb, hF⟩ := F w mg fa _ (hY w _ Y) G.T.g hmg
  exact law_callG (hY w _ Y) G.T.g G.T.b G.T.builtins G.T.nolimit hg hobj hints (Nat.le_trans hlen (by decide)) hr hF hb (fun H _ hS => hsp _ H a ns hlen hS)
end Z
namespace Z
open PySem PySem.Spec PyProof.Rows L2
mutual
inductive Dd (K : PySem.W.Frag) (H : Hp) : V → PyData → Prop
  | non : Dd K H .non .none
  | bl (b : Bool) : Dd K H (.bl b) (.bool b)
  | int (i : Int) : Dd K H (.int i) (.int i)
  | str (x : Str) : Dd K H (.str x) (.str x)
  | lst {a : Addr} {xs : List V} {ds : List PyData} (h : SqM K H a xs) (r : Ds K H xs ds) : Dd K H (.ref a) (.list ds)
  | tup {a : Addr} {xs : List V} {ds : List PyData} (h : SqT K H a xs) (r : Ds K H xs ds) : Dd K H (.ref a) (.tuple ds)
  | dic {a : Addr} (h : H a = some (.dK [])) : Dd K H (.ref a) (.dict [])
inductive Ds (K : PySem.W.Frag) (H : Hp) : List V → List PyData → Prop
  | nil : Ds K H [] []
  | cons {v : V} {vs : List V} {d : PyData} {ds : List PyData} (h : Dd K H v d) (r : Ds K H vs ds) : Ds K H (v :: vs) (d :: ds)
end
theorem sameT {K : PySem.W.Frag} {H H' : Hp} {a : Addr} {xs : List V} (e : Same H H') (h : SqT K H a xs) : SqT K H' a xs := by
  rcases h with (h | ⟨o, h⟩) | h
  · exact .inl (.inl (e _ _ h))
  · exact .inl (.inr ⟨o, e _ _ h⟩)
  · exact .inr h
section
variable {K : PySem.W.Frag} {H H' : Hp}
mutual
theorem Dd.mono (e : Same H H') : ∀ (d : PyData) (v : V), Dd K H v d → Dd K H' v d
  | .none, _, h => by cases h; exact .non
  | .bool b, _, h => by cases h; exact .bl b
  | .int i, _, h => by cases h; exact .int i
  | .str x, _, h => by cases h; exact .str x
  | .list ds, _, h => by
    cases h with
    | lst hs ha => exact .lst (sameM e hs) (Ds.mono e ds _ ha)
  | .tuple ds, _, h => by
    cases h with
    | tup hs ha => exact .tup (sameT e hs) (Ds.mono e ds _ ha)
  | .dict kvs, _, h => by
    cases h with
    | dic hs => exact .dic (e _ _ hs)
theorem Ds.mono (e : Same H H') : ∀ (ds : List PyData) (vs : List V), Ds K H vs ds → Ds K H' vs ds
  | [], _, h => by cases h; exact .nil
  | d :: ds, _, h => by
    cases h with
    | cons h1 h2 => exact .cons (Dd.mono e d _ h1) (Ds.mono e ds _ h2)
end
theorem Dd.up {d : PyData} {v : V} (h : Dd K H v d) (e : Same H H') : Dd K H' v d := Dd.mono e d v h
theorem Ds.up {ds : List PyData} {vs : List V} (h : Ds K H vs ds) (e : Same H H') : Ds K H' vs ds := Ds.mono e ds vs h
theorem Ds.length : ∀ {vs : List V} {ds : List PyData}, Ds K H vs ds → vs.length = ds.length
  | _, _, .nil => rfl
  | _, _, .cons _ r => congrArg Nat.succ r.length
theorem Ds.get : ∀ {vs : List V} {ds : List PyData} {i : Nat} {d : PyData}, Ds K H vs ds → ds[i]? = some d → ∃ v, vs[i]? = some v ∧ Dd K H v d
  | _, _, _, _, .nil, e => by simp at e
  | _, _, 0, _, .cons h _, e => by simp at e; subst e; exact ⟨_, rfl, h⟩
  | _, _, i + 1, d, .cons _ r, e => by
    obtain ⟨u, h1, h2⟩ := Ds.get (i := i) (d := d) r (by simpa using e)
    exact ⟨u, by simpa using h1, h2⟩
theorem Ds.at : ∀ {vs : List V} {ds : List PyData} {i : Nat} {v : V}, Ds K H vs ds → vs[i]? = some v → ∃ d, ds[i]? = some d ∧ Dd K H v d
  | _, _, _, _, .nil, e => by simp at e
  | _, _, 0, _, .cons h _, e => by simp at e; subst e; exact ⟨_, rfl, h⟩
  | _, _, i + 1, v, .cons _ r, e => by
    obtain ⟨u, h1, h2⟩ := Ds.at (i := i) (v := v) r (by simpa using e)
    exact ⟨u, by simpa using h1, h2⟩
theorem Ds.append : ∀ {vs ws : List V} {ds es : List PyData}, Ds K H vs ds → Ds K H ws es → Ds K H (vs ++ ws) (ds ++ es)
  | _, _, _, _, .nil, s => s
  | _, _, _, _, .cons h r, s => .cons h (r.append s)
theorem Ds.take : ∀ {vs : List V} {ds : List PyData} (n : Nat), Ds K H vs ds → Ds K H (vs.take n) (ds.take n)
  | _, _, 0, _ => .nil
  | _, _, _ + 1, .nil => .nil
  | _, _, n + 1, .cons h r => .cons h (r.take n)
theorem Ds.drop : ∀ {vs : List V} {ds : List PyData} (n : Nat), Ds K H vs ds → Ds K H (vs.drop n) (ds.drop n)
  | _, _, 0, r => r
  | _, _, _ + 1, .nil => .nil
  | _, _, n + 1, .cons _ r => r.drop n
theorem Ds.one {v : V} {d : PyData} (h : Dd K H v d) : Ds K H [v] [d] := .cons h .nil
theorem Ds.ints : ∀ (ns : List Int), Ds K H (ns.map V.int) (ns.map PyData.int)
  | [] => .nil
  | b :: bs => .cons (.int b) (Ds.ints bs)
/-- what a type it has -/
def tyn : PyData → String
  | .none => "NoneType" | .bool _ => "bool" | .int _ => "int" | .str _ => "str" | .list _ => "list" | .tuple _ => "tuple" | .dict _ => "dict"
theorem Dd.ty {v : V} {d : PyData} (h : Dd K H v d) : TyX K H v (.type (tyn d)) := by
  cases h with
  | non => exact .base .non
  | bl b => exact .base (.bl b)
  | int i => exact .base (.int i)
  | str x => exact .base (.str x)
  | lst h _ =>
    rcases h.seq with (h | ⟨o, h⟩) | ⟨o, its, n, h, c, _⟩
    · exact .base (.lst h)
    · exact .base (.frz h)
    · exact .kList h c
  | tup h _ =>
    rcases h with (h | ⟨o, h⟩) | ⟨o, its, n, h, c, _⟩
    · exact .base (.tup h)
    · exact .fTuple h
    · exact .kTuple h c
  | dic h => exact .base (.dK h)
theorem Dd.seqT {v : V} {ds : List PyData} (h : Dd K H v (.tuple ds)) : ∃ a xs, v = .ref a ∧ SqT K H a xs ∧ Ds K H xs ds := by
  cases h with
  | tup h r => exact ⟨_, _, rfl, h, r⟩
theorem Dd.isStr {v : V} {x : Str} (h : Dd K H v (.str x)) : v = .str x := by cases h; rfl
theorem Dd.isInt {v : V} {x : Int} (h : Dd K H v (.int x)) : v = .int x := by cases h; rfl
theorem Dd.isBl {v : V} {x : Bool} (h : Dd K H v (.bool x)) : v = .bl x := by cases h; rfl
end
section
variable {X : Cx} {pins : List (Addr × Obj)} {σ : L2.St} {H : Hp} {s : Shared}
mutual
theorem Dd.reads (I : Inv X pins σ H s) : ∀ (d : PyData) (v : V) (u : Value), Dd X.K H v d → RelV v u → ∃ as, Reads s.heap u d as
  | .none, _, _, h, r => by cases h; cases r; exact ⟨_, .none⟩
  | .bool b, _, _, h, r => by cases h; cases r; exact ⟨_, .bool b⟩
  | .int i, _, _, h, r => by cases h; obtain ⟨t, rfl⟩ := r; exact ⟨_, .int i t⟩
  | .str x, _, _, h, r => by cases h; obtain ⟨t, rfl⟩ := r; exact ⟨_, .str x t⟩
  | .list ds, _, _, h, r => by
    cases h with
    | lst hs ha =>
      cases r
      obtain ⟨its, rv, ⟨o, n, ho, hc, _, hd⟩, _⟩ := I.list hs.seq
      obtain ⟨as, hr⟩ := Ds.reads I ds _ its ha rv
      exact ⟨_, .list ho hc hd hr⟩
  | .tuple ds, _, _, h, r => by
    cases h with
    | tup hs ha =>
      cases r
      obtain ⟨its, rv, ⟨o, ho, hc, n, hd⟩, _⟩ := I.tuple hs
      obtain ⟨as, hr⟩ := Ds.reads I ds _ its ha rv
      exact ⟨_, .tuple ho hc hd hr⟩
  | .dict kvs, _, _, h, r => by
    cases h with
    | @dic a h =>
      cases r
      obtain ⟨_, _, vs, kv, hd⟩ := (show ObjOk X.prog X.w H s.heap a (.dK []) from I.hok a _ h)
      cases kv
      obtain ⟨o, es, ep, ho, hx, hda, _, hp, _⟩ := hd
      have e0 : es.toList = [] := by
        generalize es.toList = l at hp
        cases hp
        rfl
      refine ⟨_, .dict (as := []) (bs := []) ho hx.1 hda ?_ ?_⟩
      · rw [e0]
        exact .nil
      · rw [e0]
        exact .nil
theorem Ds.reads (I : Inv X pins σ H s) : ∀ (ds : List PyData) (vs : List V) (us : List Value), Ds X.K H vs ds → Vals vs us → ∃ as, ReadsAll s.heap us ds as
  | [], _, _, h, r => by cases h; cases r; exact ⟨_, .nil⟩
  | d :: ds, _, _, h, r => by
    cases h with
    | cons h1 h2 =>
      cases r with
      | cons r1 r2 =>
        obtain ⟨as, q1⟩ := Dd.reads I d _ _ h1 r1
        obtain ⟨bs, q2⟩ := Ds.reads I ds _ _ h2 r2
        exact ⟨_, .cons q1 q2⟩
end
/-- repr of data without dicts, where no repr is under way -/
def rRepr (K : PySem.W.Frag) : List V → Hp → VK → Prop := fun xs H Q => ∃ v d, xs = [v] ∧ Dd K H v d ∧ d.showable = true ∧ d.hasDict = false ∧ d.depth ≤ 64 ∧ d.shown.length ≤ sizeLine ∧ Q (.str d.shown) H
theorem call_repr (ng : NoG X.A) (hu : X.A.units + 80 < cLine) : CallR X (.builtin "repr") (rRepr X.K) := by
  intro pins s σ H xs us Q I r h
  obtain ⟨v, d, rfl, hd, hs, hnd, hdp, hz, q⟩ := h
  obtain ⟨u, rfl, ru⟩ := vals1 r
  cases d with
  | none =>
    cases hd
    cases ru
    exact PySem.P.repr_of_none ⟨.str _, H, I.tok _, ⟨_, rfl⟩, q⟩
  | bool b =>
    cases hd
    cases ru
    refine PySem.P.repr_of_bool ⟨.str _, H, I.tok _, ⟨_, rfl⟩, ?_⟩
    cases b <;> exact q
  | int i =>
    cases hd
    obtain ⟨t, rfl⟩ := ru
    have hi : i.natAbs.log2 < 1920 := of_decide_eq_true hs
    exact PySem.P.repr_of_int hi ⟨.str _, H, I.tok _, ⟨_, rfl⟩, q⟩
  | str x =>
    cases hd
    obtain ⟨t, rfl⟩ := ru
    exact PySem.P.repr_of_str ⟨.str _, H, I.tok _, ⟨_, rfl⟩, q⟩ hz
  | list ds =>
    obtain ⟨as, r1⟩ := Dd.reads I _ v u hd ru
    cases hd
    cases ru
    exact repr_of_reads' r1 hs (PyData.noDict_hsm hnd) ng (by omega) (fun _ _ e => e) (fun h' t tk hk => ⟨.str _, H, I.kept (t' := tk) hk, ⟨_, rfl⟩, q⟩) hz
  | tuple ds =>
    obtain ⟨as, r1⟩ := Dd.reads I _ v u hd ru
    cases hd
    cases ru
    exact repr_of_reads' r1 hs (PyData.noDict_hsm hnd) ng (by omega) (fun _ _ e => e) (fun h' t tk hk => ⟨.str _, H, I.kept (t' := tk) hk, ⟨_, rfl⟩, q⟩) hz
  | dict kvs => exact nomatch hnd
end
def off (p : Addr) (H : Hp) : Hp := fun b => if b = p then none else H b
theorem off_ne {p b : Addr} {H : Hp} (h : b ≠ p) : off p H b = H b := if_neg h
theorem off_at {p : Addr} {H : Hp} : off p H p = none := if_pos rfl
theorem same_off {p : Addr} {H H' : Hp} (e : Same H H') : Same (off p H) (off p H') := by
  intro b o q
  by_cases h : b = p
  · rw [h, off_at] at q
    cases q
  · rw [off_ne h] at q ⊢
    exact e b o q
theorem new_same {H : Hp} {p : Addr} (o : HO) (h : H p = none) : Same H (upd H p o) := fun b u q => by rw [upd_ne (ne_of_none q h)]; exact q
/-- a well: its four numbers -/
def Well (p : Addr) (H : Hp) : Prop := ∃ a b c d : Int, H p = some (.lst [.int a, .int b, .int c, .int d]) ∧ 0 ≤ a ∧ 0 ≤ b ∧ b < 2147483563
structure Go (p : Addr) (H H' : Hp) : Prop where
  well : Well p H'
  same : Same (off p H) (off p H')
theorem Well.up {p : Addr} {H H' : Hp} (h : Well p H) (e : Same H H') : Well p H' := by
  obtain ⟨a, b, c, d, q, r⟩ := h
  exact ⟨a, b, c, d, e _ _ q, r⟩
theorem Well.go {p : Addr} {H H' : Hp} (h : Well p H) (e : Same H H') : Go p H H' := ⟨h.up e, same_off e⟩
theorem Go.trans {p : Addr} {H H1 H2 : Hp} (a : Go p H H1) (b : Go p H1 H2) : Go p H H2 := ⟨b.well, a.same.trans b.same⟩
theorem Well.ne {p q : Addr} {H : Hp} (h : Well p H) (n : H q = none) : q ≠ p := by
  obtain ⟨a, b, c, d, e, _⟩ := h
  exact (ne_of_none e n).symm
theorem u80 {k : Nat} {A : Around} (r : Room k A) : A.units + 80 < cLine := by
  have z := r.un
  omega
end Z
namespace Z
open PySem PySem.Spec PyProof.Rows L2
section
variable {σ : L2.St} {H : Hp} {Q : VK} {D : Ends} {K : PySem.W.Frag} {ta tb te tc : TE} {t u w : TS} {tt tu : TT} {T : TA}
theorem r_seq (q : t { D with nx := u D } σ H) : tSeq t u D σ H := q
theorem r_ret {n : L2.St → Hp → Prop} {rt : VK} {bk ct : L2.St → Hp → Prop} (q : te σ H rt) : tRet te ⟨n, rt, bk, ct⟩ σ H := q
theorem r_asg {g : TG} {n : L2.St → Hp → Prop} {rt : VK} {bk ct : L2.St → Hp → Prop} (q : te σ H fun x H1 => g x σ H1 n) : tAsg te g ⟨n, rt, bk, ct⟩ σ H := q
theorem r_name {i : Nat} {v : V} {P : L2.St → Hp → Prop} (q : P (σ.set i (some v)) H) : gName i v σ H P := q
theorem r_var {i : Nat} {v : V} (h : σ[i]? = some (some v)) (q : Q v H) : tVar i σ H Q := ⟨v, h, q⟩
theorem r_c {v : V} (q : Q v H) : tC v σ H Q := q
theorem r_op {r : R2} (q : ta σ H fun x H1 => tb σ H1 fun y H2 => r x y H2 Q) : tOp r ta tb σ H Q := q
theorem r_test {P : Bool → Hp → Prop} (q : te σ H fun x H' => ∃ k, x = .bl k ∧ P k H') : tTest te σ H P := q
theorem r_nil {P : List V → Hp → Prop} (q : P [] H) : tNil σ H P := q
theorem r_cons {P : List V → Hp → Prop} (q : te σ H fun x H1 => T σ H1 fun xs H2 => P (x :: xs) H2) : tCons te T σ H P := q
theorem r_cb {r : List V → Hp → VK → Prop} (q : T σ H fun vs H1 => r vs H1 Q) : tCB r T σ H Q := q
theorem r_tup (q : T σ H fun xs H1 => xs.length ≤ sizeLine ∧ ∀ p, H1 p = none → Q (.ref p) (upd H1 p (.tup xs))) : tTup T σ H Q := q
theorem r_gnil {P : L2.St → Hp → Prop} (q : P σ H) : gNil [] σ H P := ⟨rfl, q⟩
theorem r_gcons {g : TG} {gs : TGs} {v : V} {r : List V} {P : L2.St → Hp → Prop} (q : g v σ H fun σ' H' => gs r σ' H' P) : gCons g gs (v :: r) σ H P := ⟨v, r, rfl, q⟩
theorem r_gtup {n : Nat} {gs : TGs} {a : Addr} {xs : List V} {P : L2.St → Hp → Prop} (h : SqT K H a xs) (e : xs.length = n) (q : gs xs σ H P) : gTup K n gs (.ref a) σ H P := ⟨a, xs, rfl, h, e, q⟩
theorem r_gsub {to ti : TE} {s : TSet} {v : V} {P : L2.St → Hp → Prop} (q : to σ H fun o H1 => ti σ H1 fun i H2 => s o i v H2 fun H3 => P σ H3) : gSub to ti s v σ H P := q
theorem r_it {P R : Prop} (q : P) : if true = true then P else R := (if_pos rfl : (if true = true then P else R) = P) ▸ q
theorem r_if0 {P R : Prop} (q : R) : if false = true then P else R := (if_neg Bool.false_ne_true : (if false = true then P else R) = R) ▸ q
theorem r_dec {c : Prop} [Decidable c] {P R : Prop} (h1 : c → P) (h2 : ¬ c → R) : if decide c = true then P else R := ite2 (fun h => h1 (of_decide_eq_true h)) fun h => h2 (of_decide_eq_false (Bool.eq_false_iff.mpr h))
theorem r_bool {b : Bool} {P R : Prop} (h1 : b = true → P) (h2 : b = false → R) : if b = true then P else R := ite2 h1 fun h => h2 (Bool.eq_false_iff.mpr h)
end
def wInt (xs : List V) (H : Hp) (Q : VK) : Prop := (∃ i, xs = [.int i] ∧ Q (.int i) H) ∨ ∃ k, xs = [.bl k] ∧ Q (.int (if k then 1 else 0)) H
def wAbs (xs : List V) (H : Hp) (Q : VK) : Prop := ∃ i, xs = [.int i] ∧ Q (.int (if i < 0 then -i else i)) H
def wMax (xs : List V) (H : Hp) (Q : VK) : Prop := ∃ i j, xs = [.int i, .int j] ∧ Q (.int (if j > i then j else i)) H
def wMin (xs : List V) (H : Hp) (Q : VK) : Prop := ∃ i j, xs = [.int i, .int j] ∧ Q (.int (if j < i then j else i)) H
def wListOf (K : PySem.W.Frag) (xs : List V) (H : Hp) (Q : VK) : Prop := ∃ p ys, xs = [.ref p] ∧ (SqL K H p ys ∨ SqT K H p ys) ∧ ∀ l, H l = none → Q (.ref l) (upd H l (.lst ys))
def wTupOf (K : PySem.W.Frag) (xs : List V) (H : Hp) (Q : VK) : Prop := ∃ p ys, xs = [.ref p] ∧ ((SqL K H p ys ∧ ∀ l, H l = none → Q (.ref l) (upd H l (.tup ys))) ∨ (SqT K H p ys ∧ Q (.ref p) H))
section
variable {X : Cx}
theorem c_int : CallR X (.type "int") wInt := call_int1
theorem c_abs : CallR X (.builtin "abs") wAbs := call_abs
theorem c_max (h : X.calm = true) : CallR X (.builtin "max") wMax := call_max2 h
theorem c_min (h : X.calm = true) : CallR X (.builtin "min") wMin := call_min2 h
theorem c_list : CallR X (.type "list") (wListOf X.K) := call_list_of
theorem c_tuple : CallR X (.type "tuple") (wTupOf X.K) := call_tuple_of
end
section
variable {H : Hp} {Q : VK} {K : PySem.W.Frag}
/-- isinstance of data -/
theorem r_isi {v : V} {d : PyData} {n : String} {b : Bool} (h : Dd K H v d) (e : kitB (tyn d) n = some b) (q : Q (.bl b) H) : rIsi K [v, .ty n] H Q := ⟨v, .ty n, _, _, b, rfl, .ty n, h.ty, kit_ty e, q⟩
end
end Z
namespace Z
open PySem PySem.Spec PyProof.Rows L2
def offO : Option Addr → Hp → Hp
  | none, H => H
  | some p, H => off p H
def okO (o : Option Addr) (H : Hp) : Prop := ∀ p, o = some p → H p ≠ none
theorem okO.up {o : Option Addr} {H H' : Hp} (h : okO o H) (e : Same H H') : okO o H' := fun p z y => by
  cases q : H p with
  | none => exact h p z q
  | some u => rw [e p u q] at y; cases y
theorem Well.ok {p : Addr} {H : Hp} (h : Well p H) : okO (some p) H := fun q z y => by
  cases z
  obtain ⟨a, b, c, d, e, _⟩ := h
  rw [e] at y
  cases y
theorem okO.at {o : Option Addr} {H : Hp} (h : okO o H) {q : Addr} {u : HO} (n : H q = none) : offO o (upd H q u) q = some u := by
  cases o with
  | none => exact upd_same
  | some p =>
    have e : q ≠ p := fun z => h p rfl (z ▸ n)
    show off p (upd H q u) q = some u
    rw [off_ne e]
    exact upd_same
section
variable {K : PySem.W.Frag} {o : Option Addr} {σ : L2.St} {ta : TA} {te : TE} {ds es : List PyData} {d : PyData}
def cutD (ds : List PyData) (lo hi : Option Int) : List PyData := (ds.drop (HT.sIx ds.length 0 lo)).take (HT.sIx ds.length ds.length hi - HT.sIx ds.length 0 lo)
theorem inV_strs (s : Str) : ∀ ws : List Str, inV (.str s) (ws.map V.str) = ws.contains s
  | [] => rfl
  | a :: ws => by
    have ih := inV_strs s ws
    unfold inV at ih ⊢
    rw [List.map_cons, List.any_cons, ih, List.contains_cons]
    show ((a == s) || _) = ((s == a) || _)
    rw [Bool.beq_comm]
theorem r_nt {P R : Prop} (q : R) : if (!true) = true then P else R := r_if0 q
theorem r_nf {P R : Prop} (q : P) : if (!false) = true then P else R := r_it q
theorem r_ndec {c : Prop} [Decidable c] {P R : Prop} (h1 : ¬ c → P) (h2 : c → R) : if (!decide c) = true then P else R := by
  by_cases h : c
  · rw [decide_eq_true h]
    exact r_nt (h2 h)
  · rw [decide_eq_false h]
    exact r_nf (h1 h)
theorem r_nbool {b : Bool} {P R : Prop} (h1 : b = false → P) (h2 : b = true → R) : if (!b) = true then P else R := by
  cases b with
  | true => exact r_nt (h2 rfl)
  | false => exact r_nf (h1 rfl)
theorem cutD1 (d : PyData) (ds : List PyData) : cutD (d :: ds) (some 1) none = ds := by
  unfold cutD
  rw [show HT.sIx (d :: ds).length 0 (some 1) = min 1 (d :: ds).length from HT.sIx_nat _ 0 1, HT.sIx_none]
  rw [show min 1 (d :: ds).length = 1 by rw [List.length_cons]; omega]
  show List.take _ ds = ds
  exact List.take_of_length_le (by rw [List.length_cons]; omega)
end
end Z
namespace Z
open PySem PySem.Spec PyProof.Rows L2
section
variable {X : Cx} {k : Nat} {f : Addr} {fd : FuncData} {ps ks : List Str} {sp : Sp} {x : Str} {p pos : Pos} {kws : List Keyword} {tk : TA} {g : List Value → List Value → List Value} {gV : List V → List V → List V}
def tCallN (sp : Sp) (gV : List V → List V → List V) (tk : TA) : TE := fun σ H Q => tk σ H fun zs H2 => sp (gV [] zs) H2 Q E0
end
mutual
theorem Dd.dp {K : PySem.W.Frag} {H : Hp} : ∀ (d : PyData) (v : V), d.hasDict = false → Dd K H v d → Dp K H v d
  | .none, _, _, h => by cases h; exact .non
  | .bool b, _, _, h => by cases h; exact .bl b
  | .int i, _, _, h => by cases h; exact .int i
  | .str x, _, _, h => by cases h; exact .str x
  | .list ds, _, hn, h => by
    cases h with
    | lst hs ha => exact .lst hs.seq (Ds.dp ds _ hn ha)
  | .tuple ds, _, hn, h => by
    cases h with
    | tup hs ha => exact .tup hs (Ds.dp ds _ hn ha)
  | .dict _, _, hn, _ => nomatch hn
theorem Ds.dp {K : PySem.W.Frag} {H : Hp} : ∀ (ds : List PyData) (vs : List V), PyData.hasDictAll ds = false → Ds K H vs ds → DpAll K H vs ds
  | [], _, _, h => by cases h; exact .nil
  | d :: ds, _, hn, h => by
    cases h with
    | cons h1 h2 =>
      have hn' : (d.hasDict || PyData.hasDictAll ds) = false := hn
      have h3 := (Bool.or_eq_false_iff.mp hn').1
      have h4 := (Bool.or_eq_false_iff.mp hn').2
      exact .cons (Dd.dp d _ h3 h1) (Ds.dp ds _ h4 h2)
end
end Z
namespace Z
inductive PV where
  | unit | num (i : Int) | pair (a b : PV) | left (a : PV) | right (a : PV)
deriving DecidableEq
namespace PV
def rk : PV → Nat
  | unit => 0 | num _ => 1 | pair _ _ => 2 | left _ => 3 | right _ => 4
def lt : PV → PV → Bool
  | num a, num b => decide (a < b)
  | pair a b, pair c d => if a = c then lt b d else lt a c
  | left a, left b => lt a b
  | right a, right b => lt a b
  | x, y => decide (rk x < rk y)
theorem lt_irr : ∀ x : PV, lt x x = false
  | unit => by simp [lt, rk]
  | num a => by simp [lt]
  | pair a b => by simp [lt, lt_irr b]
  | left a => by simp [lt, lt_irr a]
  | right a => by simp [lt, lt_irr a]
theorem lt_tri : ∀ x y : PV, x = y ∨ lt x y = true ∨ lt y x = true := by
  intro x
  induction x with
  | unit => intro y; cases y <;> simp [lt, rk]
  | num a => intro y; cases y <;> simp [lt, rk]; omega
  | pair a b ha hb =>
    intro y
    cases y with
    | pair c d =>
      by_cases e : a = c
      · subst e
        simpa [lt] using hb d
      · have e' : ¬ c = a := fun z => e z.symm
        have q := ha c
        simp [lt, e, e'] at q ⊢
        exact q
    | _ => simp [lt, rk]
  | left a ha =>
    intro y
    cases y with
    | left c => simpa [lt] using ha c
    | _ => simp [lt, rk]
  | right a ha =>
    intro y
    cases y with
    | right c => simpa [lt] using ha c
    | _ => simp [lt, rk]
theorem lt_trans : ∀ x y z : PV, lt x y = true → lt y z = true → lt x z = true := by
  intro x
  induction x with
  | unit => intro y z; cases y <;> cases z <;> simp [lt, rk]
  | num a => intro y z; cases y <;> cases z <;> simp [lt, rk]; omega
  | pair a b ha hb =>
    intro y z h1 h2
    cases y with
    | pair c d =>
      cases z with
      | pair e f =>
        simp only [lt] at h1 h2 ⊢
        by_cases e1 : a = c
        · subst e1
          rw [if_pos rfl] at h1
          by_cases e2 : a = e
          · subst e2
            rw [if_pos rfl] at h2 ⊢
            exact hb d f h1 h2
          · rw [if_neg e2] at h2 ⊢
            exact h2
        · rw [if_neg e1] at h1
          by_cases e2 : c = e
          · subst e2
            rw [if_neg e1]
            exact h1
          · rw [if_neg e2] at h2
            have h3 := ha c e h1 h2
            have e3 : ¬ a = e := by
              intro z
              subst z
              rw [lt_irr] at h3
              cases h3
            rw [if_neg e3]
            exact h3
      | _ => simp [lt, rk] at h1 h2 ⊢
    | _ => cases z <;> simp [lt, rk] at h1 h2 ⊢
  | left a ha =>
    intro y z h1 h2
    cases y with
    | left c =>
      cases z with
      | left e => simp only [lt] at h1 h2 ⊢; exact ha c e h1 h2
      | _ => simp [lt, rk] at h1 h2 ⊢
    | _ => cases z <;> simp [lt, rk] at h1 h2 ⊢
  | right a ha =>
    intro y z h1 h2
    cases y with
    | right c =>
      cases z with
      | right e => simp only [lt] at h1 h2 ⊢; exact ha c e h1 h2
      | _ => simp [lt, rk] at h1 h2 ⊢
    | _ => cases z <;> simp [lt, rk] at h1 h2 ⊢
theorem lt_asym {x y : PV} (h : lt x y = true) : lt y x = false := by
  cases e : lt y x with
  | false => rfl
  | true =>
    have := lt_trans x y x h e
    rw [lt_irr] at this
    cases this
theorem lt_ne {x y : PV} (h : lt x y = true) : x ≠ y := fun z => by
  subst z
  rw [lt_irr] at h
  cases h
end PV
abbrev Row := PV × Int
abbrev Rows := List Row
def Asc (r : Rows) : Prop := r.Pairwise fun a b => PV.lt a.1 b.1 = true
structure Bagged (r : Rows) : Prop where
  asc : Asc r
  nz : ∀ p ∈ r, p.2 ≠ 0
def cnt : Rows → PV → Int
  | [], _ => 0
  | p :: r, x => (if p.1 = x then p.2 else 0) + cnt r x
theorem cnt_app (r s : Rows) (x : PV) : cnt (r ++ s) x = cnt r x + cnt s x := by
  induction r with
  | nil => simp [cnt]
  | cons p r ih => simp only [List.cons_append, cnt, ih]; omega
theorem cnt_perm {r s : Rows} (h : r.Perm s) (x : PV) : cnt r x = cnt s x := by
  induction h with
  | nil => rfl
  | cons p _ ih => simp only [cnt, ih]
  | swap p q r => simp only [cnt]; omega
  | trans _ _ h1 h2 => rw [h1, h2]
theorem cnt_none {r : Rows} {x : PV} (h : ∀ p ∈ r, p.1 ≠ x) : cnt r x = 0 := by
  induction r with
  | nil => rfl
  | cons p r ih =>
    rw [cnt, if_neg (h p List.mem_cons_self), ih fun q hq => h q (List.mem_cons_of_mem _ hq)]
    rfl
def nz (r : Rows) : Rows := r.filter fun p => p.2 != 0
theorem cnt_nz (r : Rows) (x : PV) : cnt (nz r) x = cnt r x := by
  unfold nz
  induction r with
  | nil => rfl
  | cons p r ih =>
    by_cases e : p.2 = 0
    · rw [List.filter_cons_of_neg (by simp [e]), ih, cnt, e]
      split <;> simp
    · rw [List.filter_cons_of_pos (by simp [e]), cnt, cnt, ih]
theorem nz_asc {r : Rows} (h : Asc r) : Bagged (nz r) := ⟨List.Pairwise.filter _ h, fun p hp => by simpa using (List.mem_filter.mp hp).2⟩
/-- a bag is what it counts -/
theorem uniq : ∀ {r s : Rows}, Bagged r → Bagged s → (∀ x, cnt r x = cnt s x) → r = s
  | [], [], _, _, _ => rfl
  | [], p :: s, _, hs, h => by
    have h1 := h p.1
    have h0 := List.pairwise_cons.mp hs.asc
    rw [cnt, cnt, if_pos rfl, cnt_none fun q hq => Ne.symm (PV.lt_ne (h0.1 q hq))] at h1
    exact absurd (by omega) (hs.nz p List.mem_cons_self)
  | p :: r, [], hr, _, h => by
    have h1 := h p.1
    have h0 := List.pairwise_cons.mp hr.asc
    rw [cnt, cnt, if_pos rfl, cnt_none fun q hq => Ne.symm (PV.lt_ne (h0.1 q hq))] at h1
    exact absurd (by omega) (hr.nz p List.mem_cons_self)
  | p :: r, q :: s, hr, hs, h => by
    have p0 := List.pairwise_cons.mp hr.asc
    have q0 := List.pairwise_cons.mp hs.asc
    have cp : cnt r p.1 = 0 := cnt_none fun y hy => Ne.symm (PV.lt_ne (p0.1 y hy))
    have cq : cnt s q.1 = 0 := cnt_none fun y hy => Ne.symm (PV.lt_ne (q0.1 y hy))
    have pn := hr.nz p List.mem_cons_self
    have qn := hs.nz q List.mem_cons_self
    have hp := h p.1
    have hq := h q.1
    rw [cnt, cnt, if_pos rfl, cp] at hp
    rw [cnt, cnt, if_pos rfl, cq] at hq
    have e1 : p.1 = q.1 := by
      rcases PV.lt_tri p.1 q.1 with e | l | l
      · exact e
      · have z : cnt s p.1 = 0 := cnt_none fun y hy => Ne.symm (PV.lt_ne (PV.lt_trans _ _ _ l (q0.1 y hy)))
        rw [if_neg (Ne.symm (PV.lt_ne l)), z] at hp
        exact absurd (by omega) pn
      · have z : cnt r q.1 = 0 := cnt_none fun y hy => Ne.symm (PV.lt_ne (PV.lt_trans _ _ _ l (p0.1 y hy)))
        rw [if_neg (Ne.symm (PV.lt_ne l)), z] at hq
        exact absurd (by omega) qn
    have cs : cnt s p.1 = 0 := by rw [e1]; exact cq
    rw [if_pos e1.symm, cs] at hp
    have e : p = q := Prod.ext e1 (by omega)
    subst e
    refine congrArg _ (uniq ⟨p0.2, fun y hy => hr.nz y (List.mem_cons_of_mem _ hy)⟩ ⟨q0.2, fun y hy => hs.nz y (List.mem_cons_of_mem _ hy)⟩ fun x => ?_)
    have hx := h x
    rw [cnt, cnt] at hx
    omega
/-- one more of v -/
def put : Rows → PV → Int → Rows
  | [], v, n => [(v, n)]
  | p :: r, v, n => if p.1 = v then (v, p.2 + n) :: r else if PV.lt v p.1 = true then (v, n) :: p :: r else p :: put r v n
theorem put_keys {v : PV} {n : Int} : ∀ {r : Rows} {p : Row}, p ∈ put r v n → p.1 = v ∨ p ∈ r
  | [], p, h => by
    rw [put, List.mem_singleton] at h
    exact .inl (by rw [h])
  | q :: r, p, h => by
    unfold put at h
    split at h
    · rcases List.mem_cons.mp h with e | h
      · exact .inl (by rw [e])
      · exact .inr (List.mem_cons_of_mem _ h)
    · split at h
      · rcases List.mem_cons.mp h with e | h
        · exact .inl (by rw [e])
        · exact .inr h
      · rcases List.mem_cons.mp h with e | h
        · exact .inr (by rw [e]; exact List.mem_cons_self)
        · rcases put_keys h with e | h
          · exact .inl e
          · exact .inr (List.mem_cons_of_mem _ h)
theorem put_asc {v : PV} {n : Int} : ∀ {r : Rows}, Asc r → Asc (put r v n)
  | [], _ => List.pairwise_singleton _ _
  | p :: r, h => by
    have h0 := List.pairwise_cons.mp h
    unfold put
    split
    · rename_i e
      exact List.pairwise_cons.mpr ⟨fun y hy => by rw [← e]; exact h0.1 y hy, h0.2⟩
    · rename_i ne
      split
      · rename_i l
        refine List.pairwise_cons.mpr ⟨fun y hy => ?_, h⟩
        rcases List.mem_cons.mp hy with e | hy
        · rw [e]; exact l
        · exact PV.lt_trans _ _ _ l (h0.1 y hy)
      · rename_i l
        refine List.pairwise_cons.mpr ⟨fun y hy => ?_, put_asc h0.2⟩
        rcases put_keys hy with e | hy
        · rw [e]
          rcases PV.lt_tri p.1 v with z | z | z
          · exact absurd z ne
          · exact z
          · exact absurd z l
        · exact h0.1 y hy
theorem cnt_put {v : PV} {n : Int} {x : PV} : ∀ {r : Rows}, cnt (put r v n) x = cnt r x + if v = x then n else 0
  | [] => by simp [put, cnt]
  | p :: r => by
    unfold put
    split
    · rename_i e
      simp only [cnt, e]
      split <;> omega
    · split
      · simp only [cnt]
        omega
      · simp only [cnt, cnt_put (r := r)]
        omega
def putAll (acc : Rows) (ps : Rows) : Rows := ps.foldl (fun acc p => put acc p.1 p.2) acc
theorem putAll_asc : ∀ {ps acc : Rows}, Asc acc → Asc (putAll acc ps)
  | [], _, h => h
  | p :: ps, _, h => putAll_asc (ps := ps) (put_asc h)
theorem cnt_putAll {x : PV} : ∀ {ps acc : Rows}, cnt (putAll acc ps) x = cnt acc x + cnt ps x
  | [], acc => by simp [putAll, cnt]
  | p :: ps, acc => by
    show cnt (putAll (put acc p.1 p.2) ps) x = _
    rw [cnt_putAll (ps := ps), cnt_put, cnt]
    omega
theorem putAll_keys : ∀ {ps acc : Rows} {p : Row}, p ∈ putAll acc ps → (∃ q ∈ ps, q.1 = p.1) ∨ ∃ q ∈ acc, q.1 = p.1
  | [], acc, p, h => .inr ⟨p, h, rfl⟩
  | q :: ps, acc, p, h => by
    rcases putAll_keys (ps := ps) (acc := put acc q.1 q.2) h with ⟨z, hz, e⟩ | ⟨z, hz, e⟩
    · exact .inl ⟨z, List.mem_cons_of_mem _ hz, e⟩
    · rcases put_keys hz with e2 | hz
      · exact .inl ⟨q, List.mem_cons_self, by rw [← e2, e]⟩
      · exact .inr ⟨z, hz, e⟩
def norm (ps : Rows) : Rows := nz (putAll [] ps)
theorem norm_bagged (ps : Rows) : Bagged (norm ps) := nz_asc (putAll_asc List.Pairwise.nil)
theorem cnt_norm (ps : Rows) (x : PV) : cnt (norm ps) x = cnt ps x := by
  unfold norm
  rw [cnt_nz, cnt_putAll, cnt]
  omega
theorem norm_keys {ps : Rows} {p : Row} (h : p ∈ norm ps) : ∃ q ∈ ps, q.1 = p.1 := by
  rcases putAll_keys (List.mem_filter.mp h).1 with h | ⟨z, hz, _⟩
  · exact h
  · cases hz
theorem norm_eq {ps r : Rows} (h : Bagged r) (e : ∀ x, cnt r x = cnt ps x) : norm ps = r := uniq (norm_bagged ps) h fun x => by rw [cnt_norm, e]
theorem norm_self {r : Rows} (h : Bagged r) : norm r = r := norm_eq h fun _ => rfl
theorem norm_congr {ps qs : Rows} (e : ∀ x, cnt ps x = cnt qs x) : norm ps = norm qs := norm_eq (norm_bagged qs) fun x => by rw [cnt_norm, e]
def scale (n : Int) (r : Rows) : Rows := if n = 0 then [] else r.map fun p => (p.1, n * p.2)
theorem cnt_map (n : Int) (x : PV) : ∀ r : Rows, cnt (r.map fun p => (p.1, n * p.2)) x = n * cnt r x
  | [] => by simp [cnt]
  | p :: r => by
    simp only [List.map_cons, cnt, cnt_map n x r, Int.mul_add]
    split <;> simp
theorem cnt_scale (n : Int) (r : Rows) (x : PV) : cnt (scale n r) x = n * cnt r x := by
  unfold scale
  split
  · rename_i e
    simp [cnt, e]
  · exact cnt_map n x r
theorem scale_bagged {n : Int} {r : Rows} (h : Bagged r) : Bagged (scale n r) := by
  unfold scale
  split
  · exact ⟨List.Pairwise.nil, fun _ z => nomatch z⟩
  · rename_i hn
    refine ⟨List.pairwise_map.mpr h.asc, fun p hp => ?_⟩
    obtain ⟨q, hq, rfl⟩ := List.mem_map.mp hp
    exact Int.mul_ne_zero hn (h.nz q hq)
inductive DK where
  | unit | num | pair (a b : DK) | either (a b : DK) | bag (a : DK)
namespace DK
def plain : DK → Bool
  | unit => true | num => true | pair a b => plain a && plain b | either a b => plain a && plain b | bag _ => false
def group : DK → Bool
  | num => true | bag a => plain a | pair a b => group a && group b | _ => false
def ok : DK → Bool
  | unit => true | num => true | pair a b => ok a && ok b | either a b => ok a && ok b | bag a => plain a
theorem plain_ok : ∀ {k : DK}, plain k = true → ok k = true
  | unit, _ => rfl
  | num, _ => rfl
  | pair a b, h => by
    simp only [plain, Bool.and_eq_true] at h
    simp only [ok, Bool.and_eq_true]
    exact ⟨plain_ok h.1, plain_ok h.2⟩
  | either a b, h => by
    simp only [plain, Bool.and_eq_true] at h
    simp only [ok, Bool.and_eq_true]
    exact ⟨plain_ok h.1, plain_ok h.2⟩
end DK
def hasP : DK → PV → Prop
  | .unit, .unit => True
  | .num, .num _ => True
  | .pair a b, .pair x y => hasP a x ∧ hasP b y
  | .either a _, .left x => hasP a x
  | .either _ b, .right y => hasP b y
  | _, _ => False
inductive DV where
  | unit | num (i : Int) | pair (a b : DV) | left (a : DV) | right (a : DV) | bag (r : Rows)
def has : DK → DV → Prop
  | .unit, .unit => True
  | .num, .num _ => True
  | .pair a b, .pair x y => has a x ∧ has b y
  | .either a _, .left x => has a x
  | .either _ b, .right y => has b y
  | .bag a, .bag r => Bagged r ∧ ∀ p ∈ r, hasP a p.1
  | _, _ => False
def ofP : PV → DV
  | .unit => .unit | .num i => .num i | .pair a b => .pair (ofP a) (ofP b) | .left a => .left (ofP a) | .right a => .right (ofP a)
theorem has_plain : ∀ {k : DK} {v : DV}, k.plain = true → has k v → ∃ p, v = ofP p ∧ hasP k p
  | .unit, .unit, _, _ => ⟨.unit, rfl, trivial⟩
  | .num, .num i, _, _ => ⟨.num i, rfl, trivial⟩
  | .pair a b, .pair x y, h, ⟨hx, hy⟩ => by
    simp only [DK.plain, Bool.and_eq_true] at h
    obtain ⟨p, e1, h1⟩ := has_plain h.1 hx
    obtain ⟨q, e2, h2⟩ := has_plain h.2 hy
    exact ⟨.pair p q, by rw [ofP, e1, e2], h1, h2⟩
  | .either a b, .left x, h, hx => by
    simp only [DK.plain, Bool.and_eq_true] at h
    obtain ⟨p, e1, h1⟩ := has_plain h.1 (show has a x from hx)
    exact ⟨.left p, by rw [ofP, e1], h1⟩
  | .either a b, .right x, h, hx => by
    simp only [DK.plain, Bool.and_eq_true] at h
    obtain ⟨p, e1, h1⟩ := has_plain h.2 (show has b x from hx)
    exact ⟨.right p, by rw [ofP, e1], h1⟩
  | .bag _, _, h, _ => nomatch h
def plus : DV → DV → DV
  | .num i, .num j => .num (i + j)
  | .bag r, .bag s => .bag (norm (r ++ s))
  | .pair a b, .pair c d => .pair (plus a c) (plus b d)
  | x, _ => x
def times (n : Int) : DV → DV
  | .num i => .num (n * i)
  | .bag r => .bag (scale n r)
  | .pair a b => .pair (times n a) (times n b)
  | x => x
def zero : DK → DV
  | .num => .num 0
  | .pair a b => .pair (zero a) (zero b)
  | _ => .bag []
section
variable {k : DK}
/-- what a value of a group kind is -/
inductive Grp : DK → DV → Prop
  | num (i : Int) : Grp .num (.num i)
  | bag {a : DK} {r : Rows} (h : Bagged r) (p : ∀ q ∈ r, hasP a q.1) (pl : a.plain = true) : Grp (.bag a) (.bag r)
  | pair {a b : DK} {x y : DV} (h1 : Grp a x) (h2 : Grp b y) : Grp (.pair a b) (.pair x y)
theorem Grp.of : ∀ {k : DK} {v : DV}, k.group = true → has k v → Grp k v
  | .num, .num i, _, _ => .num i
  | .bag a, .bag r, h, ⟨h1, h2⟩ => .bag h1 h2 h
  | .pair a b, .pair x y, h, ⟨h1, h2⟩ => by
    simp only [DK.group, Bool.and_eq_true] at h
    exact .pair (Grp.of h.1 h1) (Grp.of h.2 h2)
  | .unit, _, h, _ => nomatch h
  | .either _ _, _, h, _ => nomatch h
theorem Grp.has : ∀ {k : DK} {v : DV}, Grp k v → has k v
  | _, _, .num i => trivial
  | _, _, .bag h p _ => ⟨h, p⟩
  | _, _, .pair h1 h2 => ⟨h1.has, h2.has⟩
theorem Grp.plus : ∀ {k : DK} {v u : DV}, Grp k v → Grp k u → Grp k (plus v u)
  | _, _, _, .num i, .num j => .num _
  | _, _, _, .bag h p pl, .bag h' p' _ => .bag (norm_bagged _) (fun q hq => by
      obtain ⟨z, hz, e⟩ := norm_keys hq
      rw [← e]
      rcases List.mem_append.mp hz with hz | hz
      · exact p z hz
      · exact p' z hz) pl
  | _, _, _, .pair a b, .pair c d => .pair (a.plus c) (b.plus d)
theorem Grp.times (n : Int) : ∀ {k : DK} {v : DV}, Grp k v → Grp k (times n v)
  | _, _, .num i => .num _
  | _, _, .bag (r := r) h p pl => .bag (scale_bagged h) (fun q hq => by
      unfold scale at hq
      split at hq
      · cases hq
      · obtain ⟨z, hz, rfl⟩ := List.mem_map.mp hq
        exact p z hz) pl
  | _, _, .pair a b => .pair (a.times n) (b.times n)
theorem Grp.zero : ∀ {k : DK}, k.group = true → Grp k (zero k)
  | .num, _ => .num 0
  | .bag a, h => .bag ⟨List.Pairwise.nil, fun _ z => nomatch z⟩ (fun _ z => nomatch z) h
  | .pair a b, h => by
    simp only [DK.group, Bool.and_eq_true] at h
    exact .pair (Grp.zero h.1) (Grp.zero h.2)
  | .unit, h => nomatch h
  | .either _ _, h => nomatch h
theorem plus_comm : ∀ {k : DK} {v u : DV}, Grp k v → Grp k u → plus v u = plus u v
  | _, _, _, .num i, .num j => by rw [plus, plus, Int.add_comm]
  | _, _, _, .bag h p pl, .bag h' p' _ => by
    rw [plus, plus]
    exact congrArg _ (norm_congr fun x => by rw [cnt_app, cnt_app]; omega)
  | _, _, _, .pair a b, .pair c d => by rw [plus, plus, plus_comm a c, plus_comm b d]
theorem plus_assoc : ∀ {k : DK} {v u w : DV}, Grp k v → Grp k u → Grp k w → plus (plus v u) w = plus v (plus u w)
  | _, _, _, _, .num i, .num j, .num l => by rw [plus, plus, plus, plus, Int.add_assoc]
  | _, _, _, _, .bag h p pl, .bag h' p' _, .bag h'' p'' _ => by
    rw [plus, plus, plus, plus]
    exact congrArg _ (norm_congr fun x => by rw [cnt_app, cnt_app, cnt_norm, cnt_norm, cnt_app, cnt_app]; omega)
  | _, _, _, _, .pair a b, .pair c d, .pair e f => by rw [plus, plus, plus, plus, plus_assoc a c e, plus_assoc b d f]
theorem plus_zero : ∀ {k : DK} {v : DV}, Grp k v → plus v (zero k) = v
  | _, _, .num i => by rw [zero, plus, Int.add_zero]
  | _, _, .bag h p _ => by
    rw [zero, plus, List.append_nil, norm_self h]
    all_goals intros; simp_all
  | _, _, .pair a b => by rw [zero, plus, plus_zero a, plus_zero b]
theorem plus_opp : ∀ {k : DK} {v : DV}, Grp k v → plus v (times (-1) v) = zero k
  | _, _, .num i => by
    rw [times, plus, zero]
    congr 1
    omega
  | _, _, .bag h p _ => by
    rw [times, plus]
    show DV.bag _ = DV.bag []
    refine congrArg _ (norm_eq ⟨List.Pairwise.nil, fun _ z => nomatch z⟩ fun x => ?_)
    rw [cnt_app, cnt_scale, cnt]
    omega
  | _, _, .pair a b => by rw [times, plus, zero, plus_opp a, plus_opp b]
end
end Z
namespace Z
open PySem PySem.Spec PyProof.Rows L2
open PySem.SeqAt PySem.MeetsSeq PySem.MeetsSeq2 PySem.MeetsSeq3
def encP : PV → PyData
  | .unit => .tuple []
  | .num i => .int i
  | .pair a b => .tuple [.str "pair", encP a, encP b]
  | .left a => .tuple [.str "left", encP a]
  | .right a => .tuple [.str "right", encP a]
def encR (p : Row) : PyData := .tuple [encP p.1, .int p.2]
def encD : DV → PyData
  | .unit => .tuple []
  | .num i => .int i
  | .pair a b => .tuple [.str "pair", encD a, encD b]
  | .left a => .tuple [.str "left", encD a]
  | .right a => .tuple [.str "right", encD a]
  | .bag r => .tuple (r.map encR)
theorem encD_ofP : ∀ p : PV, encD (ofP p) = encP p
  | .unit => rfl
  | .num _ => rfl
  | .pair a b => by rw [ofP, encD, encP, encD_ofP a, encD_ofP b]
  | .left a => by rw [ofP, encD, encP, encD_ofP a]
  | .right a => by rw [ofP, encD, encP, encD_ofP a]
theorem ne_lr : (("left" : Str) == "right") = false := by decide +kernel
theorem ne_rl : (("right" : Str) == "left") = false := by decide +kernel
theorem eqv_encP : ∀ {k : DK} {x y : PV}, hasP k x → hasP k y → PyData.eqv (encP x) (encP y) = decide (x = y)
  | .unit, .unit, .unit, _, _ => by simp [encP, PyData.eqv, PyData.eqvAll]
  | .num, .num i, .num j, _, _ => by
    simp only [encP, PyData.eqv, PV.num.injEq]
    by_cases e : i = j <;> simp [e]
  | .pair a b, .pair x y, .pair u v, ⟨h1, h2⟩, ⟨h3, h4⟩ => by
    simp only [encP, PyData.eqv, PyData.eqvAll, eqv_encP h1 h3, eqv_encP h2 h4, PV.pair.injEq, beq_self_eq_true, Bool.true_and, Bool.and_true, Bool.decide_and]
  | .either a b, .left x, .left u, h1, h3 => by
    have h1' : hasP a x := h1
    have h3' : hasP a u := h3
    simp only [encP, PyData.eqv, PyData.eqvAll, eqv_encP h1' h3', PV.left.injEq, beq_self_eq_true, Bool.true_and, Bool.and_true]
  | .either a b, .right x, .right u, h1, h3 => by
    have h1' : hasP b x := h1
    have h3' : hasP b u := h3
    simp only [encP, PyData.eqv, PyData.eqvAll, eqv_encP h1' h3', PV.right.injEq, beq_self_eq_true, Bool.true_and, Bool.and_true]
  | .either a b, .left x, .right u, h1, h3 => by
    have e : decide (PV.left x = PV.right u) = false := by simp
    simp only [encP, PyData.eqv, PyData.eqvAll, ne_lr, Bool.false_and, e]
  | .either a b, .right x, .left u, h1, h3 => by
    have e : decide (PV.right x = PV.left u) = false := by simp
    simp only [encP, PyData.eqv, PyData.eqvAll, ne_rl, Bool.false_and, e]
theorem lay_encP : ∀ x : PV, (encP x).canLay0 = true
  | .unit => rfl
  | .num _ => rfl
  | .pair a b => by
    simp only [encP, PyData.canLay0, PyData.canLayAll0, lay_encP a, lay_encP b]
    decide +kernel
  | .left a => by
    simp only [encP, PyData.canLay0, PyData.canLayAll0, lay_encP a]
    decide +kernel
  | .right a => by
    simp only [encP, PyData.canLay0, PyData.canLayAll0, lay_encP a]
    decide +kernel
def pd : PV → Nat
  | .unit => 1 | .num _ => 0 | .pair a b => max (pd a) (pd b) + 1 | .left a => pd a + 1 | .right a => pd a + 1
theorem pd_eq : ∀ x : PV, (encP x).depth = pd x
  | .unit => rfl
  | .num _ => rfl
  | .pair a b => by
    simp only [encP, PyData.depth, PyData.depthAll, pd, pd_eq a, pd_eq b]
    omega
  | .left a => by
    simp only [encP, PyData.depth, PyData.depthAll, pd, pd_eq a]
    omega
  | .right a => by
    simp only [encP, PyData.depth, PyData.depthAll, pd, pd_eq a]
    omega
/-- told place by place: alike, or the first that is not -/
inductive Lex (A : Around) (s : Shared) : List Value → List Value → Bool → Prop
  | nil : Lex A s [] [] false
  | eq {x y : Value} {xs ys : List Value} {b : Bool} (h : SeqAt.EqAt A s x y true) (r : Lex A s xs ys b) : Lex A s (x :: xs) (y :: ys) b
  | ne {x y : Value} {xs ys : List Value} {b : Bool} (h : SeqAt.EqAt A s x y false) (r : Ob.RcOp .Lt A s x y b) : Lex A s (x :: xs) (y :: ys) b
theorem Lex.len {A : Around} {s : Shared} : ∀ {xs ys : List Value} {b : Bool}, Lex A s xs ys b → xs = [] → ys = [] ∧ b = false
  | _, _, _, .nil, _ => ⟨rfl, rfl⟩
  | _, _, _, .eq _ _, e => nomatch e
  | _, _, _, .ne _ _, e => nomatch e
theorem lex_meets (l b : Addr) (us vs : Array Value) (n m : Nat) (d1 d2 : Option Addr) (s1 s2 : Array (Option Value)) (res : Bool) :
    Meets (Builtin.«tuple.__lt__» ⟨[.ref l, .ref b], []⟩)
      (fun A R s => s.heap.get? l = some ⟨.type "tuple", d1, .seq us n, s1⟩ ∧ s.heap.get? b = some ⟨.type "tuple", d2, .seq vs m, s2⟩ ∧ us.size = vs.size ∧ Lex A.in1 s us.toList vs.toList res ∧ R (.ok (.ret (.bool res))) s) :=
  .of_wp fun prog w A R s h => by
    obtain ⟨hp, g, d, tk, os⟩ := s
    obtain ⟨hl, hb, hz, hx, hR⟩ := h
    have f2 := AutoSeq1.sub_tuple_tuple
    wp_walk using AutoSeq1.wpAny_loadPart' hl, AutoSeq1.wpAny_loadPart' hb, wpAny_forIn_list _ (fun rest b s' => b.1 = none ∧ s' = ⟨hp, g, d, tk, os⟩ ∧ ∃ xs ys, rest = xs.zip ys ∧ xs.length = ys.length ∧ Lex A.in1 ⟨hp, g, d, tk, os⟩ xs ys res) _
    case turn =>
      rintro ⟨y, x⟩ rest b s' ⟨hb', rfl, xs, ys, e, el, lx⟩
      cases lx with
      | nil => cases e
      | @eq x1 y1 xs1 ys1 _ h r =>
        rw [List.zip_cons_cons] at e
        cases e
        refine wpAny_bind (h prog w _ _ ?_)
        wp_walk
        exact ⟨rfl, rfl, xs1, ys1, rfl, by simpa using el, r⟩
      | @ne x1 y1 xs1 ys1 _ h r =>
        rw [List.zip_cons_cons] at e
        cases e
        refine wpAny_bind (h prog w _ _ ?_)
        have r' := r prog w
        wp_walk using r'
        exact ⟨_, rfl, by simpa using hR⟩
    case fin =>
      rintro ⟨b1, b2⟩ s' ⟨hb', rfl, xs, ys, e, el, lx⟩
      simp only at hb'
      subst hb'
      have e0 : xs = [] := by
        cases lx with
        | nil => rfl
        | eq h r => cases e
        | ne h r => cases e
      obtain ⟨_, rfl⟩ := lx.len e0
      wp_walk
      exact ⟨_, rfl, by simpa [Builtin.Tuple.tupleCompareSizes, hz] using hR⟩
    case h =>
      exact ⟨rfl, rfl, us.toList, vs.toList, rfl, by simpa using hz, hx⟩
theorem lex_lt {A : Around} {s : Shared} {l b : Addr} {us vs : Array Value} {res : Bool} (hl : s.heap.IsTuple l us) (hb : s.heap.IsTuple b vs) (hu : A.units < cLine) (hz : us.size = vs.size) (hx : Lex A.in1 s us.toList vs.toList res) :
    Ob.RcOp .Lt A s (.ref l) (.ref b) res := fun prog w E Q h => by
  obtain ⟨⟨c1, d1, da1, s1⟩, g1, z1, n, y1⟩ := id hl
  obtain ⟨⟨c2, d2, da2, s2⟩, g2, z2, m, y2⟩ := id hb
  simp only at z1 y1 z2 y2
  subst z1 y1 z2 y2
  exact richCompare_meets_room (op := .Lt) ⟨_, g1, rfl⟩ ⟨_, g2, rfl⟩ F.slot_tuple_lt F.entry_tuple_lt (F.args_tuple_lt_2 _ _) (lex_meets l b us vs n m d1 d2 s1 s2 res) ⟨g1, g2, hz, hx, ⟨(fun x => nomatch x), h⟩⟩ hu
end Z
namespace Z
open PySem PySem.Spec PyProof.Rows L2 PySem.SeqAt
section
variable {h : Heap} {u v : Value} {t : Str} {d e : PyData} {as bs : List Addr}
theorem reads0 (r : Reads h u (.tuple []) as) : ∃ a, u = .ref a ∧ h.IsTuple a #[] := by
  cases r with
  | @tuple a o vs n _ _ ho hc hd hr =>
    have e1 : vs = #[] := by
      obtain ⟨l⟩ := vs
      have hr0 : ReadsAll h l [] as := hr
      cases hr0
      rfl
    subst e1
    exact ⟨a, rfl, o, ho, hc, n, hd⟩
theorem reads2 (r : Reads h u (.tuple [.str t, d]) as) : ∃ a k x xs, u = .ref a ∧ h.IsTuple a #[.str t k, x] ∧ Reads h x d xs := by
  cases r with
  | @tuple a o vs n _ _ ho hc hd hr =>
    obtain ⟨l⟩ := vs
    have hr0 : ReadsAll h l [.str t, d] as := hr
    cases hr0 with
    | cons r1 q1 =>
      cases q1 with
      | cons r2 q2 =>
        cases q2
        cases r1
        exact ⟨a, _, _, _, rfl, ⟨o, ho, hc, n, hd⟩, r2⟩
theorem reads3 (r : Reads h u (.tuple [.str t, d, e]) as) : ∃ a k x y xs ys, u = .ref a ∧ h.IsTuple a #[.str t k, x, y] ∧ Reads h x d xs ∧ Reads h y e ys := by
  cases r with
  | @tuple a o vs n _ _ ho hc hd hr =>
    obtain ⟨l⟩ := vs
    have hr0 : ReadsAll h l [.str t, d, e] as := hr
    cases hr0 with
    | cons r1 q1 =>
      cases q1 with
      | cons r2 q2 =>
        cases q2 with
        | cons r3 q3 =>
          cases q3
          cases r1
          exact ⟨a, _, _, _, _, _, rfl, ⟨o, ho, hc, n, hd⟩, r2, r3⟩
end
section
variable {s : Shared}
theorem eqStr (A : Around) (x y : Str) (k l : Tok) : EqAt A s (.str x k) (.str y l) (x == y) := SeqAt.EqAt.str_str x k y l
theorem lex_same {A : Around} {x x' : Value} {xs ys : List Value} {p q : PV} {b : Bool} (he : EqAt A s x x' (decide (p = q))) (hl : Ob.RcOp .Lt A s x x' (PV.lt p q)) (r : Lex A s xs ys b) :
    Lex A s (x :: xs) (x' :: ys) (if p = q then b else PV.lt p q) := by
  by_cases e : p = q
  · rw [if_pos e]
    rw [decide_eq_true e] at he
    exact .eq he r
  · rw [if_neg e]
    rw [decide_eq_false e] at he
    exact .ne he hl
theorem lex_head {A : Around} {t : Str} {k l : Tok} {xs ys : List Value} {b : Bool} (r : Lex A s xs ys b) : Lex A s (.str t k :: xs) (.str t l :: ys) b := by
  have z := eqStr (s := s) A t t k l
  rw [beq_self_eq_true] at z
  exact .eq z r
theorem lt_same (p q : PV) : (if p = q then false else PV.lt p q) = PV.lt p q := by
  by_cases e : p = q
  · rw [if_pos e, e, PV.lt_irr]
  · rw [if_neg e]
def LtOk (k : DK) (x : PV) : Prop := ∀ (y : PV) (A : Around) (u v : Value) (as bs : List Addr), hasP k x → hasP k y → Reads s.heap u (encP x) as → Reads s.heap v (encP y) bs → A.units + pd x + pd y < cLine →
  EqAt A s u v (decide (x = y)) ∧ Ob.RcOp .Lt A s u v (PV.lt x y)
theorem eq_of {k : DK} {x y : PV} {A : Around} {u v : Value} {as bs : List Addr} (h1 : hasP k x) (h2 : hasP k y) (ru : Reads s.heap u (encP x) as) (rv : Reads s.heap v (encP y) bs) (hu : A.units + pd x + pd y < cLine) : EqAt A s u v (decide (x = y)) := by
  have e2 := SeqAt.eqAt_reads _ _ A s _ _ _ _ ru rv (lay_encP _) (lay_encP _) (by rw [pd_eq, pd_eq]; omega)
  rwa [eqv_encP h1 h2] at e2
theorem in1u (A : Around) : A.in1.units = A.units + 1 := rfl
theorem lt_pair {a b : DK} {x y : PV} (ix : LtOk (s := s) a x) (iy : LtOk (s := s) b y) : LtOk (s := s) (.pair a b) (.pair x y) := by
  intro z A u v as bs hx hy ru rv hu
  refine ⟨eq_of hx hy ru rv hu, ?_⟩
  cases z with
  | pair x' y' =>
    obtain ⟨h1, h2⟩ := hx
    obtain ⟨h3, h4⟩ := hy
    obtain ⟨p, k, u1, u2, _, _, rfl, i1, r1, r2⟩ := reads3 (show Reads s.heap u (.tuple [.str "pair", encP x, encP y]) as from ru)
    obtain ⟨q, l, v1, v2, _, _, rfl, i2, q1, q2⟩ := reads3 (show Reads s.heap v (.tuple [.str "pair", encP x', encP y']) bs from rv)
    simp only [pd] at hu
    obtain ⟨e1, l1⟩ := ix x' A.in1 _ _ _ _ h1 h3 r1 q1 (by rw [in1u]; omega)
    obtain ⟨e2, l2⟩ := iy y' A.in1 _ _ _ _ h2 h4 r2 q2 (by rw [in1u]; omega)
    have L := lex_head (t := "pair") (k := k) (l := l) (lex_same e1 l1 (lex_same e2 l2 .nil))
    rw [lt_same] at L
    exact lex_lt i1 i2 (by omega) rfl L
  | unit => exact hy.elim
  | num _ => exact hy.elim
  | left _ => exact hy.elim
  | right _ => exact hy.elim
theorem lt_left {a b : DK} {x : PV} (ix : LtOk (s := s) a x) : LtOk (s := s) (.either a b) (.left x) := by
  intro z A u v as bs hx hy ru rv hu
  refine ⟨eq_of hx hy ru rv hu, ?_⟩
  obtain ⟨p, k, u1, _, rfl, i1, r1⟩ := reads2 (show Reads s.heap u (.tuple [.str "left", encP x]) as from ru)
  cases z with
  | left x' =>
    obtain ⟨q, l, v1, _, rfl, i2, q1⟩ := reads2 (show Reads s.heap v (.tuple [.str "left", encP x']) bs from rv)
    simp only [pd] at hu
    obtain ⟨e1, l1⟩ := ix x' A.in1 _ _ _ _ hx hy r1 q1 (by rw [in1u]; omega)
    have L := lex_head (t := "left") (k := k) (l := l) (lex_same e1 l1 .nil)
    rw [lt_same] at L
    exact lex_lt i1 i2 (by omega) rfl L
  | right x' =>
    obtain ⟨q, l, v1, _, rfl, i2, q1⟩ := reads2 (show Reads s.heap v (.tuple [.str "right", encP x']) bs from rv)
    simp only [pd] at hu
    have z := eqStr (s := s) A.in1 "left" "right" k l
    rw [ne_lr] at z
    have y : Ob.RcOp .Lt A.in1 s (.str "left" k) (.str "right" l) true := fun _ _ _ _ h => PyProof.Rows.lt_str (by rw [decide_eq_true (by decide +kernel)]; exact h)
    exact lex_lt i1 i2 (by omega) rfl (.ne z y)
  | unit => exact hy.elim
  | num _ => exact hy.elim
  | pair _ _ => exact hy.elim
theorem lt_right {a b : DK} {x : PV} (ix : LtOk (s := s) b x) : LtOk (s := s) (.either a b) (.right x) := by
  intro z A u v as bs hx hy ru rv hu
  refine ⟨eq_of hx hy ru rv hu, ?_⟩
  obtain ⟨p, k, u1, _, rfl, i1, r1⟩ := reads2 (show Reads s.heap u (.tuple [.str "right", encP x]) as from ru)
  cases z with
  | right x' =>
    obtain ⟨q, l, v1, _, rfl, i2, q1⟩ := reads2 (show Reads s.heap v (.tuple [.str "right", encP x']) bs from rv)
    simp only [pd] at hu
    obtain ⟨e1, l1⟩ := ix x' A.in1 _ _ _ _ hx hy r1 q1 (by rw [in1u]; omega)
    have L := lex_head (t := "right") (k := k) (l := l) (lex_same e1 l1 .nil)
    rw [lt_same] at L
    exact lex_lt i1 i2 (by omega) rfl L
  | left x' =>
    obtain ⟨q, l, v1, _, rfl, i2, q1⟩ := reads2 (show Reads s.heap v (.tuple [.str "left", encP x']) bs from rv)
    simp only [pd] at hu
    have z := eqStr (s := s) A.in1 "right" "left" k l
    rw [ne_rl] at z
    have y : Ob.RcOp .Lt A.in1 s (.str "right" k) (.str "left" l) false := fun _ _ _ _ h => PyProof.Rows.lt_str (by rw [decide_eq_false (by decide +kernel)]; exact h)
    exact lex_lt i1 i2 (by omega) rfl (.ne z y)
  | unit => exact hy.elim
  | num _ => exact hy.elim
  | pair _ _ => exact hy.elim
theorem lt_ok (x : PV) : ∀ k : DK, LtOk (s := s) k x := by
  induction x with
  | unit =>
    intro k z A u v as bs hx hy ru rv hu
    refine ⟨eq_of hx hy ru rv hu, ?_⟩
    cases k <;> try exact hx.elim
    cases z <;> try exact hy.elim
    obtain ⟨p, rfl, i1⟩ := reads0 (show Reads s.heap u (.tuple []) as from ru)
    obtain ⟨q, rfl, i2⟩ := reads0 (show Reads s.heap v (.tuple []) bs from rv)
    exact lex_lt i1 i2 (by omega) rfl .nil
  | num i =>
    intro k z A u v as bs hx hy ru rv hu
    refine ⟨eq_of hx hy ru rv hu, ?_⟩
    cases k <;> try exact hx.elim
    cases z <;> try exact hy.elim
    cases ru
    cases rv
    exact Ob.RcOp.lt_int _ _ _ _
  | pair x y ix iy =>
    intro k
    cases k with
    | pair a b => exact lt_pair (ix a) (iy b)
    | _ => exact fun _ _ _ _ _ _ hx => hx.elim
  | left x ix =>
    intro k
    cases k with
    | either a b => exact lt_left (ix a)
    | _ => exact fun _ _ _ _ _ _ hx => hx.elim
  | right x ix =>
    intro k
    cases k with
    | either a b => exact lt_right (ix b)
    | _ => exact fun _ _ _ _ _ _ hx => hx.elim
theorem rc_lt {k : DK} {x y : PV} {A : Around} {u v : Value} {as bs : List Addr} (h1 : hasP k x) (h2 : hasP k y) (ru : Reads s.heap u (encP x) as) (rv : Reads s.heap v (encP y) bs) (hu : A.units + pd x + pd y < cLine) : Ob.RcOp .Lt A s u v (PV.lt x y) :=
  (lt_ok x k y A u v as bs h1 h2 ru rv hu).2
end
end Z
namespace Z
open PySem PySem.Spec PyProof.Rows L2 PySem.SeqAt SrtO
section
variable {prog : Program} {w : World} {A : Around} {E : Value → Shared → Prop} {s : Shared}
theorem collect_tup {l : Addr} {items : Array Value} {Q : List Value → Shared → Prop} (hl : s.heap.IsTuple l items) (hz : items.size ≤ sizeLine)
    (h : Q items.toList { s with heap := (s.heap.push (seqObj "list" #[] 0)).update s.heap.objs.size (Obj.mapSeq (· ++ items)) }) : wpAny (model prog w) A (collect (.ref l)) Q E s := by
  obtain ⟨o, ho, hc, n, hd⟩ := id hl
  have g1 : (s.heap.push (seqObj "list" #[] 0)).get? l = some o := Heap.get?_push_of_some _ ho
  have g2 : (s.heap.push (seqObj "list" #[] 0)).get? s.heap.objs.size = some (seqObj "list" #[] 0) := Heap.get?_push_size _ rfl
  unfold collect
  refine (wpAny_bind (wpAny_runValue (codeAny_builtin entry_proto_collect' ?_)))
  show wpAny _ _ (newList [] >>= fun x => again (.builtin "list.__iadd__" ⟨[x, .ref l], []⟩)) _ _ s
  refine (wpAny_bind (wpAny_newList (wpAny_pure ⟨Code.quiet_builtin _ (by decide +kernel), codeAny_builtin entry_list_iadd' ?_⟩)))
  show wpAny _ _ (Builtin.List.listExtendWith (.ref s.heap.objs.size) (.ref l) (.ref s.heap.objs.size)) _ _ { s with heap := s.heap.push (seqObj "list" #[] 0) }
  unfold Builtin.List.listExtendWith
  refine wpAny_bind (wpAny_typeOf (T := "tuple") ⟨o, g1, hc⟩ ?_)
  rw [if_pos (by rw [show (Value.type "tuple" == Value.type "tuple") = true by rfl]; simp)]
  refine wpAny_bind (listItems_at g1 hd (wpAny_bind (listItems_at g2 rfl ?_)))
  rw [if_neg (by simp)]
  refine wpAny_bind (listUpdate_at g2 rfl (wpAny_pure ?_) (Nat.zero_le _) (by show (#[] ++ items).size ≤ sizeLine + 1; simp only [Array.size_append, List.size_toArray, List.length_nil]; omega))
  show wpAny (model prog w) A (load s.heap.objs.size >>= fun o => match o.data with | .seq xs _ => pure xs.toList | _ => unsupported "internal:collect") Q E { s with heap := (s.heap.push (seqObj "list" #[] 0)).update s.heap.objs.size (Obj.mapSeq (· ++ items)) }
  refine wpAny_bind (wpAny_load (get?_update_seq g2 _) ?_)
  show wpAny _ _ (pure ((#[] : Array Value) ++ items).toList) Q E _
  rw [show ((#[] : Array Value) ++ items).toList = items.toList by simp]
  exact wpAny_pure h
theorem sorted_tup {t : Addr} {items : Array Value} {ltv : Value → Value → Bool} {Q : Value → Shared → Prop} (O : Swo ltv) (ht : s.heap.IsTuple t items) (hz : items.size ≤ sizeLine)
    (hS : 2 ≤ items.toList.length → ∀ (h1 : Heap) (a : Addr), h1.get? a = some (seqObj "list" items.toList.toArray 0) → (∀ b o, s.heap.get? b = some o → b ≠ a ∧ h1.get? b = some o) → SortableO prog w A.in1.in1 { s with heap := h1 } a items.toList ltv)
    (h : ∀ (h' : Heap) (d : Addr) (out : List Value), Srtd ltv out → Stb ltv out items.toList → (∀ b o, s.heap.get? b = some o → h'.get? b = some o) → s.heap.objs.size ≤ d → (∃ n, h'.get? d = some (seqObj "list" out.toArray n)) → Q (.ref d) { s with heap := h' }) :
    wpAny (model prog w) A (call (.builtin "sorted") [.ref t]) Q E s := by
  obtain ⟨o, ho, hc, n, hd⟩ := id ht
  have hz' : items.toList.length ≤ sizeLine := by rw [Array.length_toList]; exact hz
  refine Calls.call_function_entry kind_sorted plain_sorted entry_sorted (args_sorted1 _) ?_
  unfold Builtin.«sorted»
  refine wpAny_bind (m := checkCount "sorted" 1 1 _) (wpAny_pure ?_)
  refine wpAny_bind (collect_tup ht hz ?_)
  refine (wpAny_bind (wpAny_newList ?_ hz'))
  have hk : ∀ b o, s.heap.get? b = some o → ((s.heap.push (seqObj "list" #[] 0)).update s.heap.objs.size (Obj.mapSeq (· ++ items))).get? b = some o := fun b o q => by
    rw [Heap.get?_update_ne _ _ _ _ (Nat.ne_of_lt (Heap.lt_size q))]
    exact Heap.get?_push_of_some _ q
  have le0 : s.heap.objs.size ≤ ((s.heap.push (seqObj "list" #[] 0)).update s.heap.objs.size (Obj.mapSeq (· ++ items))).objs.size := by
    rw [Heap.size_update, size_push']
    exact Nat.le_succ _
  generalize (s.heap.push (seqObj "list" #[] 0)).update s.heap.objs.size (Obj.mapSeq (· ++ items)) = g at hk le0 ⊢
  have lt_of : ∀ b o, s.heap.get? b = some o → b < g.objs.size := fun b o q => Heap.lt_size (hk b o q)
  have at_new : (g.push (seqObj "list" items.toList.toArray 0)).get? g.objs.size = some (seqObj "list" items.toList.toArray 0) := Heap.get?_push_size _ rfl
  have kept : ∀ b o, s.heap.get? b = some o → b ≠ g.objs.size ∧ (g.push (seqObj "list" items.toList.toArray 0)).get? b = some o := fun b o q => ⟨Nat.ne_of_lt (lt_of b o q), Heap.get?_push_of_some _ (hk b o q)⟩
  show wpAny _ _ _ _ _ { s with heap := g.push (seqObj "list" items.toList.toArray 0) }
  refine wpAny_bind (wpAny_holding (wpAny_call_entry slot_list_sort ⟨_, at_new, rfl⟩ entry_list_sort (list_sort_ord O at_new hz' (fun h2 => hS h2 _ _ at_new kept) fun out hs hb => ⟨_, rfl, ?_⟩) (args_list_sort _)))
  refine wpAny_pure ⟨_, rfl, h _ _ out hs hb (fun b o q => ?_) le0 (sortedHeap_at at_new)⟩
  obtain ⟨k1, k2⟩ := kept b o q
  exact (sortedHeap_old k1 (by rw [size_push']; exact Nat.lt_succ_of_lt (lt_of b o q))).trans k2
end
def ltR (p q : Row) : Bool := if p.1 = q.1 then decide (p.2 < q.2) else PV.lt p.1 q.1
theorem ltR_iff {p q : Row} : ltR p q = true ↔ (p.1 = q.1 ∧ p.2 < q.2) ∨ PV.lt p.1 q.1 = true := by
  unfold ltR
  by_cases e : p.1 = q.1
  · rw [if_pos e, decide_eq_true_eq, e, PV.lt_irr]
    simp
  · rw [if_neg e]
    simp [e]
theorem ltR_no {p q : Row} : ltR p q = false ↔ (p.1 = q.1 ∧ q.2 ≤ p.2) ∨ PV.lt q.1 p.1 = true := by
  have h := ltR_iff (p := p) (q := q)
  rcases PV.lt_tri p.1 q.1 with e | l | l
  · unfold ltR
    rw [if_pos e, decide_eq_false_iff_not, e, PV.lt_irr]
    simp
  · rw [h.mpr (.inr l), PV.lt_asym l]
    simp [PV.lt_ne l]
  · have ne : ¬ p.1 = q.1 := fun z => PV.lt_ne l z.symm
    unfold ltR
    rw [if_neg ne, PV.lt_asym l, l]
    simp
theorem swo_row : Swo ltR where
  asym p q h := by
    rcases ltR_iff.mp h with ⟨e, l⟩ | l
    · exact ltR_no.mpr (.inl ⟨e.symm, by omega⟩)
    · exact ltR_no.mpr (.inr l)
  tr p q r h1 h2 := by
    rcases ltR_no.mp h1 with ⟨e1, l1⟩ | l1
    · rcases ltR_no.mp h2 with ⟨e2, l2⟩ | l2
      · exact ltR_no.mpr (.inl ⟨e2.trans e1, by omega⟩)
      · exact ltR_no.mpr (.inr (by rw [← e1]; exact l2))
    · rcases ltR_no.mp h2 with ⟨e2, l2⟩ | l2
      · exact ltR_no.mpr (.inr (by rw [e2]; exact l1))
      · exact ltR_no.mpr (.inr (PV.lt_trans _ _ _ l1 l2))
theorem swo_by {α : Type} (f : α → Row) : Swo fun v u => ltR (f v) (f u) := ⟨fun x y => swo_row.asym _ _, fun x y z => swo_row.tr _ _ _⟩
structure RowAt (h : Heap) (k : DK) (v : Value) (p : Row) : Prop where
  has : hasP k p.1
  ex : ∃ a x t as, v = .ref a ∧ h.IsTuple a #[x, .int p.2 t] ∧ Reads h x (encP p.1) as
theorem encP_inj {k : DK} {x y : PV} (h1 : hasP k x) (h2 : hasP k y) (e : encP x = encP y) : x = y := by
  have a := eqv_encP h1 h2
  rw [← e, eqv_encP h1 h1] at a
  simpa using a.symm
theorem RowAt.uniq {h : Heap} {k : DK} {v : Value} {p q : Row} (a : RowAt h k v p) (b : RowAt h k v q) : p = q := by
  obtain ⟨h1, a1, x1, t1, _, rfl, ⟨o1, g1, c1, n1, d1⟩, r1⟩ := a
  obtain ⟨h2, a2, x2, t2, _, e, ⟨o2, g2, c2, n2, d2⟩, r2⟩ := b
  cases e
  cases g1.symm.trans g2
  have e3 := d1.symm.trans d2
  simp only [Data.seq.injEq, Array.mk.injEq, List.cons.injEq, Value.int.injEq] at e3
  obtain ⟨⟨ex, ⟨ei, _⟩, _⟩, _⟩ := e3
  subst ex
  exact Prod.ext (encP_inj h1 h2 (Reads.unique _ _ _ _ _ (lay_encP _) r1 r2)) ei
open Classical in
noncomputable def decR (h : Heap) (k : DK) (v : Value) : Row := if c : ∃ p, RowAt h k v p then c.choose else (.unit, 0)
theorem decR_eq {h : Heap} {k : DK} {v : Value} {p : Row} (a : RowAt h k v p) : decR h k v = p := by
  have c : ∃ p, RowAt h k v p := ⟨p, a⟩
  unfold decR
  rw [dif_pos c]
  exact c.choose_spec.uniq a
section
variable {h h' : Heap} {a : Addr}
theorem keep_tup (k : ∀ b o, b ≠ a → h.get? b = some o → h'.get? b = some o) (ha : ∀ o, h.get? a = some o → o.cls ≠ .type "tuple") {t : Addr} {its : Array Value} (i : h.IsTuple t its) : h'.IsTuple t its := by
  obtain ⟨o, g, c, n, d⟩ := i
  exact ⟨o, k t o (fun z => by subst z; exact ha o g c) g, c, n, d⟩
theorem of0 {t : Addr} (i : h.IsTuple t #[]) : ∃ as, Reads h (.ref t) (.tuple []) as := by
  obtain ⟨o, g, c, n, d⟩ := i
  exact ⟨_, .tuple g c d .nil⟩
theorem of2 {t : Addr} {s : Str} {k : Tok} {x : Value} {d : PyData} {as : List Addr} (i : h.IsTuple t #[.str s k, x]) (r : Reads h x d as) : ∃ as, Reads h (.ref t) (.tuple [.str s, d]) as := by
  obtain ⟨o, g, c, n, e⟩ := i
  exact ⟨_, .tuple g c e (.cons (.str s k) (.cons r .nil))⟩
theorem of3 {t : Addr} {s : Str} {k : Tok} {x y : Value} {d e : PyData} {as bs : List Addr} (i : h.IsTuple t #[.str s k, x, y]) (r : Reads h x d as) (q : Reads h y e bs) : ∃ as, Reads h (.ref t) (.tuple [.str s, d, e]) as := by
  obtain ⟨o, g, c, n, z⟩ := i
  exact ⟨_, .tuple g c z (.cons (.str s k) (.cons r (.cons q .nil)))⟩
theorem keepP (k : ∀ b o, b ≠ a → h.get? b = some o → h'.get? b = some o) (ha : ∀ o, h.get? a = some o → o.cls ≠ .type "tuple") (x : PV) : ∀ (v : Value) (as : List Addr), Reads h v (encP x) as → ∃ bs, Reads h' v (encP x) bs := by
  induction x with
  | unit =>
    intro v as r
    obtain ⟨t, rfl, i⟩ := reads0 r
    exact of0 (keep_tup k ha i)
  | num i =>
    intro v as r
    cases r
    exact ⟨_, .int _ _⟩
  | pair x y ix iy =>
    intro v as r
    obtain ⟨t, _, _, _, _, _, rfl, i, r1, r2⟩ := reads3 r
    obtain ⟨_, q1⟩ := ix _ _ r1
    obtain ⟨_, q2⟩ := iy _ _ r2
    exact of3 (keep_tup k ha i) q1 q2
  | left x ix =>
    intro v as r
    obtain ⟨t, _, _, _, rfl, i, r1⟩ := reads2 r
    obtain ⟨_, q1⟩ := ix _ _ r1
    exact of2 (keep_tup k ha i) q1
  | right x ix =>
    intro v as r
    obtain ⟨t, _, _, _, rfl, i, r1⟩ := reads2 r
    obtain ⟨_, q1⟩ := ix _ _ r1
    exact of2 (keep_tup k ha i) q1
theorem RowAt.keeps (k : ∀ b o, b ≠ a → h.get? b = some o → h'.get? b = some o) (ha : ∀ o, h.get? a = some o → o.cls ≠ .type "tuple") {kd : DK} {v : Value} {p : Row} (r : RowAt h kd v p) : RowAt h' kd v p := by
  obtain ⟨h1, t, x, n, as, rfl, i, q⟩ := r
  obtain ⟨bs, q'⟩ := keepP k ha _ _ _ q
  exact ⟨h1, t, x, n, bs, rfl, keep_tup k ha i, q'⟩
end
def kindTy : DK → String
  | .num => "int" | _ => "tuple"
section
variable {prog : Program} {w : World} {A : Around} {s : Shared} {k : DK} {rows : List Row} {D : Nat}
theorem first_ty {M : Model} {h : Heap} {k : DK} {p : PV} {v : Value} {as : List Addr} (hp : hasP k p) (r : Reads h v (encP p) as) : PySem.W.Looks M h (typeOf v) (.type (kindTy k)) := by
  have tup : ∀ {t : Addr} {its : Array Value}, h.IsTuple t its → PySem.W.Looks M h (typeOf (.ref t)) (.type "tuple") := by
    rintro t its ⟨o, g, c, n, d⟩
    intro A Q E s kk q
    exact wpAny_typeOf (T := "tuple") ⟨o, kk _ _ g, c⟩ q
  cases p with
  | unit =>
    cases k <;> try exact hp.elim
    obtain ⟨t, rfl, i⟩ := reads0 r
    exact tup i
  | num i =>
    cases k <;> try exact hp.elim
    cases r
    exact PySem.W.Looks.now
  | pair x y =>
    cases k <;> try exact hp.elim
    obtain ⟨t, _, _, _, _, _, rfl, i, _, _⟩ := reads3 r
    exact tup i
  | left x =>
    cases k <;> try exact hp.elim
    obtain ⟨t, _, _, _, rfl, i, _⟩ := reads2 r
    exact tup i
  | right x =>
    cases k <;> try exact hp.elim
    obtain ⟨t, _, _, _, rfl, i, _⟩ := reads2 r
    exact tup i
theorem firstsR {h : Heap} {k : DK} : ∀ {vs : List Value}, (∀ v ∈ vs, ∃ p, RowAt h k v p) → ∃ fs : List Value, PySem.W.KatTups h vs fs ∧ fs.length = vs.length ∧ ∀ f ∈ fs, ∃ p as, hasP k p ∧ Reads h f (encP p) as
  | [], _ => ⟨[], PySem.W.KatTups.nil, rfl, fun _ z => nomatch z⟩
  | v :: vs, hv => by
    obtain ⟨fs, k1, k2, k3⟩ := firstsR (vs := vs) fun u hu => hv u (List.mem_cons_of_mem _ hu)
    obtain ⟨p, hp, a, x, t, as, rfl, ⟨o, g, c, n, d⟩, r⟩ := hv v List.mem_cons_self
    refine ⟨x :: fs, PySem.W.KatTups.cons g c d rfl k1, congrArg Nat.succ k2, fun f hf => ?_⟩
    rcases List.mem_cons.mp hf with rfl | hf
    · exact ⟨p.1, as, hp, r⟩
    · exact k3 f hf
theorem row_cmp {b : Bool} {vs : List Value} {f : Value → Row} (hb : b = true → k = .num) (hp : ∀ v ∈ vs, RowAt s.heap k v (f v) ∧ pd (f v).1 ≤ D) (hu : A.units + 2 * D < cLine) : Cmp prog w A s (tuples' b) (fun p => p.1 ∈ vs) (lt2 fun v u => ltR (f v) (f u)) := by
  intro p q m1 m2
  obtain ⟨c1, z1⟩ := hp _ m1
  obtain ⟨c2, z2⟩ := hp _ m2
  show wpAny (model prog w) A (keyLt' (tuples' b) p.1 q.1) (fun r s' => s' = s ∧ r = ltR (f p.1) (f q.1)) (fun _ _ => False) s
  generalize f p.1 = x at c1 z1 ⊢
  generalize f q.1 = y at c2 z2 ⊢
  obtain ⟨h1, a1, v1, t1, _, e1, ⟨o1, g1, _, n1, d1⟩, r1⟩ := c1
  obtain ⟨h2, a2, v2, t2, _, e2, ⟨o2, g2, _, n2, d2⟩, r2⟩ := c2
  rw [e1, e2]
  refine PySem.W.kat_lt g1 d1 g2 d2 ?_
  show PySem.W.KatLex prog w A b (decide (2 < 2)) _ [(v1, v2), (.int x.2 t1, .int y.2 t2)] 0 s
  refine PySem.W.kat_cons (eq_of (s := s) (A := A) h1 h2 r1 r2 (by omega) prog w _ _ ?_)
  refine PySem.W.kat_go (fun e => ?_) (fun e => ?_)
  · have ex : x.1 = y.1 := of_decide_eq_true e
    refine PySem.W.kat_yes (PySem.W.kat_cons (SeqAt.EqAt.int_int x.2 t1 y.2 t2 prog w _ _ ?_))
    have el : ltR x y = decide (x.2 < y.2) := if_pos ex
    refine PySem.W.kat_go (fun e2 => ?_) (fun e2 => ?_)
    · have ey : x.2 = y.2 := by simpa using e2
      refine PySem.W.kat_yes (PySem.W.kat_nil ⟨rfl, ?_⟩)
      rw [el, ey]
      exact (decide_eq_false (Int.lt_irrefl _)).symm
    · exact PySem.W.kat_no (TS.oneLt_ints _ ⟨rfl, el.symm⟩)
  · have ex : ¬ x.1 = y.1 := of_decide_eq_false e
    have el : ltR x y = PV.lt x.1 y.1 := if_neg ex
    refine PySem.W.kat_no ?_
    cases b with
    | true =>
      obtain rfl := hb rfl
      obtain ⟨x1, x2⟩ := x
      obtain ⟨y1, y2⟩ := y
      cases x1 <;> try exact h1.elim
      cases y1 <;> try exact h2.elim
      cases r1
      cases r2
      exact TS.oneLt_ints _ ⟨rfl, el.symm⟩
    | false =>
      have R := rc_lt (s := s) (A := A) h1 h2 r1 r2 (by omega) prog w (fun _ _ => False) (PySem.W.BoolBack fun r s' => s' = s ∧ r = ltR x y) ⟨rfl, el.symm⟩
      exact PySem.W.kat_one _ _ R
theorem rows_sortable {a : Addr} {vs : List Value} {f : Value → Row} (h0 : 0 < vs.length) (hp : ∀ v ∈ vs, RowAt s.heap k v (f v) ∧ pd (f v).1 ≤ D) (ha : ∀ o, s.heap.get? a = some o → o.cls ≠ .type "tuple") (hu : A.units + 2 * D < cLine) : SortableO prog w A s a vs fun v u => ltR (f v) (f u) := by
  intro h' keep
  have hp' : ∀ v ∈ vs, RowAt h' k v (f v) ∧ pd (f v).1 ≤ D := fun v hm => ⟨(hp v hm).1.keeps keep ha, (hp v hm).2⟩
  obtain ⟨fs, k1, k2, k3⟩ := firstsR fun v hm => ⟨_, (hp' v hm).1⟩
  refine ⟨tuples' (Value.type (kindTy k) != Value.type "tuple"), fun Q E hq => ?_, row_cmp (s := { s with heap := h' }) (fun e => ?_) hp' hu⟩
  · refine PySem.W.kat_kind (T := .type (kindTy k)) k1 (by omega) (fun g hm => ?_) (by cases k <;> first | rfl | decide +kernel) hq
    obtain ⟨p, as, hp, r⟩ := k3 g hm
    exact first_ty hp r
  · cases k with
    | num => rfl
    | _ => exact absurd (show (Value.type "tuple" != Value.type "tuple") = true from e) (by decide +kernel)
end
end Z
namespace Z
open PySem PySem.Spec PyProof.Rows L2 PySem.SeqAt RZ
section
variable {K : PySem.W.Frag} {H : Hp} {Q : VK}
theorem shaped_encP {x : PV} (h : pd x ≤ 60) : SeqAt.shaped (encP x) = true := by
  unfold SeqAt.shaped
  rw [lay_encP, pd_eq, decide_eq_true (by omega)]
  rfl
def rLtP (K : PySem.W.Frag) : R2 := fun v u H Q => ∃ (k : DK) (x y : PV), Dd K H v (encP x) ∧ Dd K H u (encP y) ∧ hasP k x ∧ hasP k y ∧ pd x ≤ 30 ∧ pd y ≤ 30 ∧ Q (.bl (PV.lt x y)) H
theorem r_ltP {k : DK} {v u : V} {x y : PV} (h1 : Dd K H v (encP x)) (h2 : Dd K H u (encP y)) (k1 : hasP k x) (k2 : hasP k y) (d1 : pd x ≤ 30) (d2 : pd y ≤ 30) (q : Q (.bl (PV.lt x y)) H) : rLtP K v u H Q := ⟨k, x, y, h1, h2, k1, k2, d1, d2, q⟩
end
section
variable {X : Cx}
theorem op_ltP (hu : X.A.units + 80 < cLine) : OpR X (compareOp .Lt) (rLtP X.K) := by
  intro pins s σ H v u a b Q I rv ru h
  obtain ⟨k, x, y, h1, h2, k1, k2, d1, d2, q⟩ := h
  obtain ⟨as, r1⟩ := Dd.reads I _ _ _ h1 rv
  obtain ⟨bs, r2⟩ := Dd.reads I _ _ _ h2 ru
  exact rc_lt (A := X.A) (s := s) k1 k2 r1 r2 (by omega) X.prog X.w X.xe (EP X pins σ Q) ⟨.bl _, H, I, rfl, q⟩
/-- sorted(t), t rows of one plain kind -/
def rSortR (K : PySem.W.Frag) : List V → Hp → VK → Prop := fun vs H Q => ∃ (v : V) (k : DK) (rows : Rows) (G : Hp), vs = [v] ∧ Same G H ∧ Dd K G v (.tuple (rows.map encR)) ∧ (∀ p ∈ rows, hasP k p.1 ∧ pd p.1 ≤ 30) ∧
  ∀ (ys : Rows) (ws : List V) (p : Addr), SrtO.Srtd ltR ys → ys.Perm rows → H p = none → Ds K G ws (ys.map encR) → Q (.ref p) (upd H p (.lst ws))
theorem rows_at {X : Cx} {pins : List (Addr × Obj)} {σ : L2.St} {H : Hp} {s : Shared} (I : Inv X pins σ H s) {G : Hp} (sg : Same G H) {k : DK} : ∀ {rows : Rows} {xs : List V} {us : List Value}, (∀ p ∈ rows, hasP k p.1 ∧ pd p.1 ≤ 30) → Ds X.K G xs (rows.map encR) → Vals xs us →
    us.map (decR s.heap k) = rows ∧ ∀ u ∈ us, RowAt s.heap k u (decR s.heap k u) ∧ pd (decR s.heap k u).1 ≤ 30 ∧ (∃ a, u = .ref a) ∧ Dd X.K G (backV u) (encR (decR s.heap k u))
  | [], _, _, _, h, r => by
    cases h
    cases r
    exact ⟨rfl, fun _ z => nomatch z⟩
  | p :: rows, _, _, hp, h, r => by
    cases h with
    | @cons v vs _ _ h1 h2 =>
      cases r with
      | @cons _ u _ us r1 r2 =>
        obtain ⟨e1, e2⟩ := rows_at I sg (k := k) (fun q hq => hp q (List.mem_cons_of_mem _ hq)) h2 r2
        obtain ⟨hk, hd⟩ := hp p List.mem_cons_self
        obtain ⟨as, rd⟩ := Dd.reads I _ _ _ (h1.up sg) r1
        have ra : RowAt s.heap k u p := by
          cases (show Reads s.heap u (.tuple [encP p.1, .int p.2]) as from rd) with
          | @tuple a o vs n _ _ ho hc hd hr =>
            obtain ⟨l⟩ := vs
            have hr0 : ReadsAll s.heap l [encP p.1, .int p.2] as := hr
            cases hr0 with
            | cons q1 t1 =>
              cases t1 with
              | cons q2 t2 =>
                cases t2
                cases q2
                exact ⟨hk, a, _, _, _, rfl, ⟨o, ho, hc, n, hd⟩, q1⟩
        have ed := decR_eq ra
        have rf : ∃ a, u = .ref a := by
          obtain ⟨_, a, _, _, _, e, _⟩ := ra
          exact ⟨a, e⟩
        have eb : backV u = v := by
          obtain ⟨a, rfl⟩ := rf
          obtain ⟨a', xs', rfl, _, _⟩ := Dd.seqT h1
          cases r1
          rfl
        refine ⟨by rw [List.map_cons, ed, e1], fun z hz => ?_⟩
        rcases List.mem_cons.mp hz with rfl | hz
        · rw [ed, eb]
          exact ⟨ra, hd, rf, h1⟩
        · exact e2 z hz
theorem ds_back {K : PySem.W.Frag} {H : Hp} {f : Value → Row} : ∀ {us : List Value}, (∀ u ∈ us, Dd K H (backV u) (encR (f u))) → Ds K H (us.map backV) ((us.map f).map encR)
  | [], _ => .nil
  | u :: us, h => .cons (h u List.mem_cons_self) (ds_back fun z hz => h z (List.mem_cons_of_mem _ hz))
theorem cr_sortR (hu : X.A.units + 80 < cLine) : CallR X (.builtin "sorted") (rSortR X.K) := by
  intro pins s σ H vs us Q I r h
  obtain ⟨v, k, rows, G, rfl, sg, hd, hp, q⟩ := h
  obtain ⟨a, xs, rfl, hs, hx⟩ := Dd.seqT hd
  obtain ⟨its, rv, ht, hz⟩ := I.tuple (sameT sg hs)
  obtain ⟨u, rfl, ru⟩ := vals1 r
  obtain rfl : u = Value.ref a := ru
  obtain ⟨e1, e2⟩ := rows_at I sg hp hx rv
  have hlen := rv.length
  refine sorted_tup (items := its.toArray) (ltv := fun v u => ltR (decR s.heap k v) (decR s.heap k u)) (swo_by _) ht (by rw [List.size_toArray]; omega) (fun h2 h1 b hb kk => ?_) fun h' d out o1 o2 kp hle hn => ?_
  · refine rows_sortable (s := { s with heap := h1 }) (k := k) (D := 30) (f := decR s.heap k) (by omega) (fun v hv => ?_) (fun o e => ?_) (by show X.A.units + 1 + 1 + 2 * 30 < cLine; omega)
    · obtain ⟨z1, z2, _, _⟩ := e2 v (by simpa using hv)
      exact ⟨z1.keeps (a := b) (fun c o _ g => (kk c o g).2) (fun o g => absurd rfl (kk b o g).1), z2⟩
    · have e' : some o = some (seqObj "list" its.toArray.toList.toArray 0) := e.symm.trans hb
      cases e'
      intro c
      exact absurd (Value.type.inj c) (by decide)
  · have pm : out.Perm its := by simpa using o2.perm
    have at_out : ∀ u ∈ out, (∃ a, u = Value.ref a) ∧ Dd X.K G (backV u) (encR (decR s.heap k u)) := fun u hu' => by
      obtain ⟨_, _, z3, z4⟩ := e2 u (pm.mem_iff.mp hu')
      exact ⟨z3, z4⟩
    obtain ⟨n, hn⟩ := hn
    refine ⟨.ref d, upd H d (.lst (out.map backV)), I.laid (t' := s.toks) kp hle ⟨?_, out, n, vals_back fun u hu' => (at_out u hu').1, hn⟩, rfl, q (out.map (decR s.heap k)) _ d (List.pairwise_map.mpr o1) (by rw [← e1]; exact pm.map _) (I.hok.fresh hle) (ds_back fun u hu' => (at_out u hu').2)⟩
    rw [List.length_map, pm.length_eq]
    omega
end
end Z
namespace Z
open PySem PySem.Spec PyProof.Rows L2
def encK : DK → PyData
  | .unit => .tuple [.str "unit"] | .num => .tuple [.str "num"]
  | .pair a b => .tuple [.str "pair", encK a, encK b] | .either a b => .tuple [.str "either", encK a, encK b] | .bag a => .tuple [.str "bag", encK a]
def kd : DK → Nat
  | .unit => 1 | .num => 1 | .pair a b => max (kd a) (kd b) + 1 | .either a b => max (kd a) (kd b) + 1 | .bag a => kd a + 1
theorem kd_pos (k : DK) : 1 ≤ kd k := by cases k <;> simp [kd]
theorem pd_le : ∀ {k : DK} {x : PV}, hasP k x → pd x ≤ kd k
  | .unit, .unit, _ => Nat.le_refl _
  | .num, .num _, _ => Nat.zero_le _
  | .pair a b, .pair x y, ⟨h1, h2⟩ => by
    have := pd_le h1
    have := pd_le h2
    simp only [pd, kd]
    omega
  | .either a b, .left x, h1 => by
    have := pd_le (show hasP a x from h1)
    simp only [pd, kd]
    omega
  | .either a b, .right x, h1 => by
    have := pd_le (show hasP b x from h1)
    simp only [pd, kd]
    omega
/-- no number of a plain value is beyond this -/
def big : Nat := 10 ^ 80
def pok : PV → Prop
  | .unit => True | .num i => i.natAbs < big | .pair a b => pok a ∧ pok b | .left a => pok a | .right a => pok a
def fits (R B : Nat) : DV → Prop
  | .unit => True | .num i => i.natAbs ≤ B | .pair a b => fits R B a ∧ fits R B b | .left a => fits R B a | .right a => fits R B a
  | .bag r => r.length ≤ R ∧ ∀ p ∈ r, p.2.natAbs ≤ B ∧ pok p.1
theorem fits.mono {R R' B B' : Nat} (hR : R ≤ R') (hB : B ≤ B') : ∀ {v : DV}, fits R B v → fits R' B' v
  | .unit, _ => trivial
  | .num i, h => Nat.le_trans (show i.natAbs ≤ B from h) hB
  | .pair a b, ⟨h1, h2⟩ => ⟨h1.mono hR hB, h2.mono hR hB⟩
  | .left a, h => fits.mono (v := a) hR hB h
  | .right a, h => fits.mono (v := a) hR hB h
  | .bag r, ⟨h1, h2⟩ => ⟨Nat.le_trans h1 hR, fun p hp => ⟨Nat.le_trans (h2 p hp).1 hB, (h2 p hp).2⟩⟩
theorem cnt_at : ∀ {r : Rows} {p : Row}, Asc r → p ∈ r → cnt r p.1 = p.2
  | q :: r, p, h, hp => by
    have h0 := List.pairwise_cons.mp h
    rcases List.mem_cons.mp hp with e | hp
    · subst e
      rw [cnt, if_pos rfl, cnt_none fun y hy => Ne.symm (PV.lt_ne (h0.1 y hy))]
      omega
    · rw [cnt, if_neg (PV.lt_ne (h0.1 p hp)), cnt_at h0.2 hp]
      omega
theorem cnt_le {r : Rows} {x : PV} {B : Nat} (h : Asc r) (hb : ∀ p ∈ r, p.2.natAbs ≤ B) : (cnt r x).natAbs ≤ B := by
  by_cases c : ∃ p ∈ r, p.1 = x
  · obtain ⟨p, hp, rfl⟩ := c
    rw [cnt_at h hp]
    exact hb p hp
  · rw [cnt_none fun p hp e => c ⟨p, hp, e⟩]
    exact Nat.zero_le _
theorem put_len {v : PV} {n : Int} : ∀ {r : Rows}, (put r v n).length ≤ r.length + 1
  | [] => Nat.le_refl _
  | p :: r => by
    unfold put
    have := put_len (v := v) (n := n) (r := r)
    split
    · simp
    · split
      · simp
      · simp only [List.length_cons]
        omega
theorem putAll_len : ∀ {ps acc : Rows}, (putAll acc ps).length ≤ acc.length + ps.length
  | [], acc => Nat.le_refl _
  | p :: ps, acc => by
    have h1 := putAll_len (ps := ps) (acc := put acc p.1 p.2)
    have h2 := put_len (v := p.1) (n := p.2) (r := acc)
    show (putAll (put acc p.1 p.2) ps).length ≤ _
    rw [List.length_cons]
    omega
theorem norm_len (ps : Rows) : (norm ps).length ≤ ps.length := by
  have h1 := putAll_len (ps := ps) (acc := [])
  have h2 := List.length_filter_le (fun p : Row => p.2 != 0) (putAll [] ps)
  unfold norm nz
  simp only [List.length_nil] at h1
  omega
theorem fits_plus {R1 R2 B1 B2 : Nat} : ∀ {k : DK} {x y : DV}, Grp k x → Grp k y → fits R1 B1 x → fits R2 B2 y → fits (R1 + R2) (B1 + B2) (plus x y)
  | _, _, _, .num i, .num j, h1, h2 => by
    have h1' : i.natAbs ≤ B1 := h1
    have h2' : j.natAbs ≤ B2 := h2
    show (i + j).natAbs ≤ B1 + B2
    omega
  | _, _, _, .bag (r := r) g p _, .bag (r := s) g' p' _, ⟨l1, h1⟩, ⟨l2, h2⟩ => by
    refine ⟨Nat.le_trans (norm_len _) (by rw [List.length_append]; omega), fun q hq => ⟨?_, ?_⟩⟩
    · rw [← cnt_at (norm_bagged _).asc hq, cnt_norm, cnt_app]
      have a := cnt_le (x := q.1) g.asc fun p hp => (h1 p hp).1
      have b := cnt_le (x := q.1) g'.asc fun p hp => (h2 p hp).1
      omega
    · obtain ⟨z, hz, e⟩ := norm_keys hq
      rw [← e]
      rcases List.mem_append.mp hz with hz | hz
      · exact (h1 z hz).2
      · exact (h2 z hz).2
  | _, _, _, .pair a b, .pair c d, ⟨h1, h2⟩, ⟨h3, h4⟩ => ⟨fits_plus a c h1 h3, fits_plus b d h2 h4⟩
theorem fits_times {R B M : Nat} {n : Int} (hn : n.natAbs ≤ M) : ∀ {k : DK} {x : DV}, Grp k x → fits R B x → fits R (M * B) (times n x)
  | _, _, .num i, h => by
    show (n * i).natAbs ≤ M * B
    rw [Int.natAbs_mul]
    exact Nat.mul_le_mul hn h
  | _, _, .bag (r := r) g p _, ⟨l, h⟩ => by
    show (scale n r).length ≤ R ∧ ∀ p ∈ scale n r, p.2.natAbs ≤ M * B ∧ pok p.1
    unfold scale
    split
    · exact ⟨Nat.zero_le _, fun _ z => nomatch z⟩
    · refine ⟨by rw [List.length_map]; exact l, fun q hq => ?_⟩
      obtain ⟨z, hz, rfl⟩ := List.mem_map.mp hq
      refine ⟨?_, (h z hz).2⟩
      show (n * z.2).natAbs ≤ M * B
      rw [Int.natAbs_mul]
      exact Nat.mul_le_mul hn (h z hz).1
  | _, _, .pair a b, ⟨h1, h2⟩ => ⟨fits_times hn a h1, fits_times hn b h2⟩
structure Shows (n m : Nat) (d : PyData) : Prop where
  sh : d.showable = true
  nd : d.hasDict = false
  dp : d.depth ≤ n
  bk : d.bulk ≤ m
  ls : d.leavesShort 100 = true
theorem shows_int {i : Int} (h : i.natAbs < big) : Shows 0 0 (.int i) where
  sh := by
    show decide (i.natAbs.log2 < 1920) = true
    refine decide_eq_true ?_
    by_cases e : i.natAbs = 0
    · rw [e]
      decide +kernel
    · have h2 : i.natAbs < 2 ^ 1920 := Nat.lt_trans h (by decide +kernel)
      exact (Nat.log2_lt e).mpr h2
  nd := rfl
  dp := Nat.le_refl _
  bk := Nat.le_refl _
  ls := by
    show decide ((PyData.shown (.int i)).length ≤ 100) = true
    refine decide_eq_true ?_
    show (Str.ofString (toString i)).length ≤ 100
    have hb : (big : Int) = 10 ^ 80 := by decide +kernel
    have hl : (10 : Int) ^ 80 ≤ 10 ^ 99 := by decide +kernel
    by_cases hn : i < 0
    · rw [len_text_neg hn]
      have z := toString_length_le (v := 0 - i) (by omega) (k := 99) (by decide) (by omega)
      omega
    · have z := toString_length_le (v := i) (by omega) (k := 99) (by decide) (by omega)
      omega
theorem shows_nil : Shows 1 0 (.tuple []) := ⟨by decide, by decide, by decide, by decide, by decide⟩
theorem shows_str (x : Str) (h : x.cps.toList.all (fun c => decide (c < 16 ^ 8)) = true) : Shows 0 x.cps.size (.str x) := ⟨rfl, rfl, Nat.le_refl _, Nat.le_refl _, h⟩
theorem Shows.mono {n n' m m' : Nat} {d : PyData} (h : Shows n m d) (a : n ≤ n') (b : m ≤ m') : Shows n' m' d := ⟨h.sh, h.nd, Nat.le_trans h.dp a, Nat.le_trans h.bk b, h.ls⟩
/-- a row of things -/
inductive ShowsAll (n : Nat) : Nat → List PyData → Prop
  | nil : ShowsAll n 0 []
  | cons {m t : Nat} {d : PyData} {ds : List PyData} (h : Shows n m d) (r : ShowsAll n t ds) : ShowsAll n (m + 1 + t) (d :: ds)
theorem ShowsAll.sh {n : Nat} : ∀ {m : Nat} {ds : List PyData}, ShowsAll n m ds → PyData.showableAll ds = true ∧ PyData.hasDictAll ds = false ∧ PyData.depthAll ds ≤ n ∧ PyData.bulkAll ds ≤ m ∧ PyData.leavesShortAll 100 ds = true
  | _, _, .nil => ⟨rfl, rfl, Nat.zero_le _, Nat.le_refl _, rfl⟩
  | _, _, .cons h r => by
    obtain ⟨a1, a2, a3, a4, a5⟩ := r.sh
    have h1 := h.sh
    have h2 := h.nd
    have h3 := h.dp
    have h4 := h.bk
    have h5 := h.ls
    refine ⟨?_, ?_, ?_, ?_, ?_⟩
    · rw [PyData.showableAll, h1, a1]
      rfl
    · rw [PyData.hasDictAll, h2, a2]
      rfl
    · rw [PyData.depthAll]
      omega
    · rw [PyData.bulkAll]
      omega
    · rw [PyData.leavesShortAll, h5, a5]
      rfl
theorem ShowsAll.tup {n m : Nat} {ds : List PyData} (h : ShowsAll n m ds) : Shows (n + 1) m (.tuple ds) := by
  obtain ⟨a1, a2, a3, a4, a5⟩ := h.sh
  exact ⟨by rw [PyData.showable]; exact a1, by rw [PyData.hasDict]; exact a2, by rw [PyData.depth]; omega, by rw [PyData.bulk]; exact a4, by rw [PyData.leavesShort]; exact a5⟩
theorem ShowsAll.lst {n m : Nat} {ds : List PyData} (h : ShowsAll n m ds) : Shows (n + 1) m (.list ds) := by
  obtain ⟨a1, a2, a3, a4, a5⟩ := h.sh
  exact ⟨by rw [PyData.showable]; exact a1, by rw [PyData.hasDict]; exact a2, by rw [PyData.depth]; omega, by rw [PyData.bulk]; exact a4, by rw [PyData.leavesShort]; exact a5⟩
theorem Shows.fits {n m : Nat} {d : PyData} (h : Shows n m d) (hm : m ≤ 150000) : d.shown.length ≤ sizeLine := by
  have a := PyData.shown_le_bulk 100 (by decide) d h.ls
  have b := h.bk
  rw [sizeLine_eq]
  have c : 102 * d.bulk ≤ 102 * 150000 := Nat.mul_le_mul_left _ (by omega)
  omega
end Z
namespace Z
open PySem PySem.Spec PyProof.Rows L2
end Z
namespace Z
open PySem PySem.Spec PyProof.Rows L2
theorem ixN_last (n : Nat) : ixN (n + 1) (-1) = some n := by
  unfold ixN
  rw [if_neg (by decide), if_pos (by omega)]
  congr 1
  omega
theorem at_last {α : Type} (xs : List α) (x : α) : atI (xs ++ [x]) (-1) = some x := by
  unfold atI
  rw [show (xs ++ [x]).length = xs.length + 1 by simp, ixN_last]
  show (xs ++ [x])[xs.length]? = some x
  simp
theorem set_last {α : Type} (xs : List α) (x y : α) : (xs ++ [x]).set xs.length y = xs ++ [y] := by
  rw [List.set_append_right _ _ (Nat.le_refl _), Nat.sub_self]
  rfl
theorem take_next {α : Type} {r : List α} {i : Nat} {p : α} (h : r[i]? = some p) : r.take (i + 1) = r.take i ++ [p] := by
  rw [List.take_add_one, h]
  rfl
theorem snoc_or {α : Type} : ∀ l : List α, l = [] ∨ ∃ a x, l = a ++ [x]
  | [] => .inl rfl
  | x :: l => by
    rcases snoc_or l with e | ⟨a, y, e⟩
    · exact .inr ⟨[], x, by rw [e]; rfl⟩
    · exact .inr ⟨x :: a, y, by rw [e]; rfl⟩
/-- rows gathered so far, out of done -/
structure GI (rs done : Rows) : Prop where
  asc : Asc rs
  cn : ∀ x, cnt rs x = cnt done x
  keys : ∀ p ∈ rs, ∃ q ∈ done, q.1 = p.1
theorem GI.nil : GI [] [] := ⟨List.Pairwise.nil, fun _ => rfl, fun _ z => nomatch z⟩
theorem GI.same {a done : Rows} {l n : Row} (h : GI (a ++ [l]) done) (e : l.1 = n.1) : GI (a ++ [(n.1, l.2 + n.2)]) (done ++ [n]) := by
  obtain ⟨a1, a2, a3⟩ := List.pairwise_append.mp h.asc
  refine ⟨List.pairwise_append.mpr ⟨a1, List.pairwise_singleton _ _, fun p hp q hq => ?_⟩, fun x => ?_, fun p hp => ?_⟩
  · rw [List.mem_singleton.mp hq]
    have z := a3 p hp l (List.mem_singleton.mpr rfl)
    rw [e] at z
    exact z
  · have z := h.cn x
    rw [cnt_app] at z ⊢
    rw [cnt_app, ← z]
    simp only [cnt, e]
    split <;> omega
  · rcases List.mem_append.mp hp with hp | hp
    · obtain ⟨q, hq, eq⟩ := h.keys p (List.mem_append_left _ hp)
      exact ⟨q, List.mem_append_left _ hq, eq⟩
    · rw [List.mem_singleton.mp hp]
      exact ⟨n, List.mem_append_right _ (List.mem_singleton.mpr rfl), rfl⟩
theorem GI.more {rs done : Rows} {n : Row} (h : GI rs done) (hs : ∀ q ∈ done, ltR n q = false) (hl : ∀ a l, rs = a ++ [l] → l.1 ≠ n.1) : GI (rs ++ [n]) (done ++ [n]) := by
  have low : ∀ p ∈ rs, p.1 = n.1 ∨ PV.lt p.1 n.1 = true := fun p hp => by
    obtain ⟨q, hq, e⟩ := h.keys p hp
    rcases ltR_no.mp (hs q hq) with ⟨e2, _⟩ | z
    · exact .inl (by rw [← e, e2])
    · exact .inr (by rw [← e]; exact z)
  refine ⟨List.pairwise_append.mpr ⟨h.asc, List.pairwise_singleton _ _, fun p hp q hq => ?_⟩, fun x => ?_, fun p hp => ?_⟩
  · rw [List.mem_singleton.mp hq]
    rcases low p hp with e | z
    · exfalso
      rcases snoc_or rs with e2 | ⟨a, l, e2⟩
      · rw [e2] at hp
        cases hp
      · have ne := hl a l e2
        rw [e2] at hp
        rcases List.mem_append.mp hp with hp | hp
        · have asc := h.asc
          rw [e2] at asc
          have z := (List.pairwise_append.mp asc).2.2 p hp l (List.mem_singleton.mpr rfl)
          rw [e] at z
          rcases low l (by rw [e2]; exact List.mem_append_right _ (List.mem_singleton.mpr rfl)) with y | y
          · exact ne y
          · rw [PV.lt_asym y] at z
            cases z
        · rw [List.mem_singleton.mp hp] at e
          exact ne e
    · exact z
  · rw [cnt_app, cnt_app, h.cn]
  · rcases List.mem_append.mp hp with hp | hp
    · obtain ⟨q, hq, eq⟩ := h.keys p hp
      exact ⟨q, List.mem_append_left _ hq, eq⟩
    · exact ⟨n, List.mem_append_right _ (List.mem_singleton.mpr rfl), by rw [List.mem_singleton.mp hp]⟩
theorem GI.norm {rs done pairs : Rows} (h : GI rs done) (p : done.Perm pairs) : norm pairs = nz rs := norm_eq (nz_asc h.asc) fun x => by rw [cnt_nz, h.cn, cnt_perm p]
theorem nz_take {r : Rows} {i : Nat} {p : Row} (h : r[i]? = some p) : nz (r.take (i + 1)) = if p.2 = 0 then nz (r.take i) else nz (r.take i) ++ [p] := by
  unfold nz
  rw [take_next h, List.filter_append]
  by_cases e : p.2 = 0
  · rw [if_pos e, List.filter_cons_of_neg (by simp [e])]
    simp
  · rw [if_neg e, List.filter_cons_of_pos (by simp [e])]
    rfl
end Z
namespace Z
open PySem PySem.Spec PyProof.Rows L2 PySem.SeqAt SrtO
def nkP : PV → NestedKey
  | .unit => .tup []
  | .num i => .num i
  | .pair a b => .tup [.text "pair", nkP a, nkP b]
  | .left a => .tup [.text "left", nkP a]
  | .right a => .tup [.text "right", nkP a]
theorem nkP_inj : ∀ {x y : PV}, nkP x = nkP y → x = y
  | .unit, .unit, _ => rfl
  | .num i, .num j, e => by cases e; rfl
  | .pair a b, .pair c d, e => by
    simp only [nkP, NestedKey.tup.injEq, List.cons.injEq, and_true, true_and] at e
    rw [nkP_inj e.1, nkP_inj e.2]
  | .left a, .left b, e => by
    simp only [nkP, NestedKey.tup.injEq, List.cons.injEq, and_true, true_and] at e
    rw [nkP_inj e]
  | .right a, .right b, e => by
    simp only [nkP, NestedKey.tup.injEq, List.cons.injEq, and_true, true_and] at e
    rw [nkP_inj e]
  | .unit, .num _, e => by simp [nkP] at e
  | .unit, .pair _ _, e => by simp [nkP] at e
  | .unit, .left _, e => by simp [nkP] at e
  | .unit, .right _, e => by simp [nkP] at e
  | .num _, .unit, e => by simp [nkP] at e
  | .num _, .pair _ _, e => by simp [nkP] at e
  | .num _, .left _, e => by simp [nkP] at e
  | .num _, .right _, e => by simp [nkP] at e
  | .pair _ _, .unit, e => by simp [nkP] at e
  | .pair _ _, .num _, e => by simp [nkP] at e
  | .pair _ _, .left _, e => by simp [nkP] at e
  | .pair _ _, .right _, e => by simp [nkP] at e
  | .left _, .unit, e => by simp [nkP] at e
  | .left _, .num _, e => by simp [nkP] at e
  | .left _, .pair _ _, e => by simp [nkP] at e
  | .left a, .right b, e => by
    simp only [nkP, NestedKey.tup.injEq, List.cons.injEq, and_true, NestedKey.text.injEq] at e
    exact absurd e.1 (by decide +kernel)
  | .right _, .unit, e => by simp [nkP] at e
  | .right _, .num _, e => by simp [nkP] at e
  | .right _, .pair _ _, e => by simp [nkP] at e
  | .right a, .left b, e => by
    simp only [nkP, NestedKey.tup.injEq, List.cons.injEq, and_true, NestedKey.text.injEq] at e
    exact absurd e.1 (by decide +kernel)
theorem nk_deep : ∀ x : PV, (nkP x).depth = pd x
  | .unit => rfl
  | .num _ => rfl
  | .pair a b => by simp only [nkP, NestedKey.depth, NestedKey.depthAll, pd, nk_deep a, nk_deep b]; omega
  | .left a => by simp only [nkP, NestedKey.depth, NestedKey.depthAll, pd, nk_deep a]; omega
  | .right a => by simp only [nkP, NestedKey.depth, NestedKey.depthAll, pd, nk_deep a]; omega
theorem nk_is {h : Heap} : ∀ (x : PV) {v : Value} {as : List Addr}, Reads h v (encP x) as → NestedIs h (nkP x) v
  | .unit, v, as, r => by
    obtain ⟨t, rfl, o, g, c, n, d⟩ := reads0 r
    exact .tup g c d .nil
  | .num i, v, as, r => by cases r; exact .int _ _
  | .pair a b, v, as, r => by
    obtain ⟨t, k, _, _, _, _, rfl, ⟨o, g, c, n, d⟩, r1, r2⟩ := reads3 r
    exact .tup g c d (.cons (.text _ _) (.cons (nk_is a r1) (.cons (nk_is b r2) .nil)))
  | .left a, v, as, r => by
    obtain ⟨t, k, _, _, rfl, ⟨o, g, c, n, d⟩, r1⟩ := reads2 r
    exact .tup g c d (.cons (.text _ _) (.cons (nk_is a r1) .nil))
  | .right a, v, as, r => by
    obtain ⟨t, k, _, _, rfl, ⟨o, g, c, n, d⟩, r1⟩ := reads2 r
    exact .tup g c d (.cons (.text _ _) (.cons (nk_is a r1) .nil))
def getR : Rows → PV → Option Int
  | [], _ => none
  | p :: r, x => if p.1 = x then some p.2 else getR r x
def putR : Rows → PV → Int → Rows
  | [], x, n => [(x, n)]
  | p :: r, x, n => if p.1 = x then (p.1, n) :: r else p :: putR r x n
def dnP (P : Program) (w : World) (a : Addr) (xs : List (NestedKey × Addr × Value)) : Heap → Prop := fun h => (a == sysModules) = false ∧ ∃ o es ep, h.get? a = some o ∧ o.ExactDict ∧ o.data = .dict es ep ∧
  es.toList = xs.map (entryOfKey (nestedKind P w)) ∧ (xs.map (·.1)).Nodup
def DN (P : Program) (w : World) (a : Addr) (xs : List (NestedKey × Addr × Value)) : HO := .ext (dnP P w a xs)
theorem dn_obj {P : Program} {w : World} {H : Hp} {h : Heap} {a : Addr} {xs : List (NestedKey × Addr × Value)} (lo : (a == sysModules) = false) (R : h.DictOfH (nestedKind P w) a xs) : ObjOk P w H h a (DN P w a xs) := by
  obtain ⟨o, es, ep, ho, hc, hd, he, _, hn⟩ := R
  refine ⟨⟨lo, o, es, ep, ho, hc, hd, he, hn⟩, ⟨o, ho⟩, fun h1 h2 p k => ?_⟩
  obtain ⟨lo, o, es, ep, ho, r⟩ := p
  exact ⟨lo, o, es, ep, k o ho, r⟩
def RowN (K : PySem.W.Frag) (G : Hp) (p : Row) (x : NestedKey × Addr × Value) : Prop := x.1 = nkP p.1 ∧ Dd K G (.ref x.2.1) (encP p.1) ∧ pd p.1 ≤ 8 ∧ ∃ t, x.2.2 = .int p.2 t
def numP : PV → Int
  | .num i => i
  | _ => 0
def keyI (p : Row) : Key × V := (.inl (numP p.1), .int p.2)
theorem mem_right {α β : Type} {R : α → β → Prop} : ∀ {l : List α} {m : List β}, Paired R l m → ∀ y, y ∈ m → ∃ x, x ∈ l ∧ R x y
  | _, _, .nil, y, h => nomatch h
  | _, _, .cons r t, y, h => by
    rcases List.mem_cons.mp h with rfl | h
    · exact ⟨_, List.mem_cons_self, r⟩
    · obtain ⟨x, hx, q⟩ := mem_right t y h
      exact ⟨x, List.mem_cons_of_mem _ hx, q⟩
theorem pair_len {α β : Type} {R : α → β → Prop} : ∀ {l : List α} {m : List β}, Paired R l m → l.length = m.length
  | _, _, .nil => rfl
  | _, _, .cons r t => congrArg Nat.succ (pair_len t)
theorem getR_none : ∀ {r : Rows} {x : PV}, (∀ p ∈ r, p.1 ≠ x) → getR r x = none
  | [], _, _ => rfl
  | p :: r, x, h => by rw [getR, if_neg (h p List.mem_cons_self), getR_none fun q hq => h q (List.mem_cons_of_mem _ hq)]
theorem putR_keys : ∀ {r : Rows} {x : PV} {n : Int} {q : Row}, q ∈ putR r x n → q.1 = x ∨ ∃ p ∈ r, p.1 = q.1
  | [], x, n, q, h => .inl (by rw [List.mem_singleton.mp h])
  | p :: r, x, n, q, h => by
    by_cases e : p.1 = x
    · rw [putR, if_pos e] at h
      rcases List.mem_cons.mp h with rfl | h
      · exact .inl e
      · exact .inr ⟨q, List.mem_cons_of_mem _ h, rfl⟩
    · rw [putR, if_neg e] at h
      rcases List.mem_cons.mp h with rfl | h
      · exact .inr ⟨_, List.mem_cons_self, rfl⟩
      · rcases putR_keys h with h | ⟨p', h1, h2⟩
        · exact .inl h
        · exact .inr ⟨p', List.mem_cons_of_mem _ h1, h2⟩
theorem putR_len : ∀ {r : Rows} {x : PV} {n : Int}, (putR r x n).length ≤ r.length + 1
  | [], _, _ => Nat.le_refl _
  | p :: r, x, n => by
    rw [putR]
    split
    · simp
    · have := putR_len (r := r) (x := x) (n := n)
      simp only [List.length_cons]
      omega
theorem putR_nodup : ∀ {r : Rows} {x : PV} {n : Int}, (r.map (·.1)).Nodup → ((putR r x n).map (·.1)).Nodup
  | [], _, _, _ => by simp [putR]
  | p :: r, x, n, h => by
    rw [List.map_cons, List.nodup_cons] at h
    rw [putR]
    split
    · rw [List.map_cons, List.nodup_cons]
      exact h
    · rename_i ne
      rw [List.map_cons, List.nodup_cons]
      refine ⟨fun z => ?_, putR_nodup h.2⟩
      obtain ⟨q, hq, e⟩ := List.mem_map.mp z
      rcases putR_keys hq with e2 | ⟨p', h1, h2⟩
      · exact ne (e.symm.trans e2)
      · exact h.1 (List.mem_map.mpr ⟨p', h1, h2.trans e⟩)
/-- the dict at a holds the rows acc; the keys stand in G -/
def BagO (P : Program) (w : World) (K : PySem.W.Frag) (k : DK) (G H : Hp) (a : Addr) (acc : Rows) : Prop :=
  Same G H ∧ (acc.map (·.1)).Nodup ∧ acc.length < 64 ∧ (∀ p ∈ acc, hasP k p.1) ∧
  ((k = .num ∧ H a = some (.dK (acc.map keyI))) ∨ (k ≠ .num ∧ ((acc = [] ∧ H a = some (.dK [])) ∨ ∃ xs, H a = some (DN P w a xs) ∧ Paired (RowN K G) acc xs)))
section
variable {X : Cx} {pins : List (Addr × Obj)} {σ : L2.St} {G H : Hp} {s : Shared} {a : Addr} {k : DK} {acc : Rows}
theorem dict_keyed0 {P : Program} {w : World} {h : Heap} (d : h.DictOf (mixKind P w) a []) : h.DictOfH (nestedKind P w) a [] := by
  obtain ⟨o, es, ep, ho, hc, hd, _, r⟩ := d
  have e : es.toList = [] := by
    cases q : es.toList with
    | nil => rfl
    | cons x xs =>
      rw [q] at r
      cases r.1
  exact ⟨o, es, ep, ho, hc, hd, by rw [e]; rfl, (by intro x hx; cases hx), List.nodup_nil⟩
/-- the library's dict of it -/
theorem bag_keyed (I : Inv X pins σ H s) (hk : k ≠ .num) (B : BagO X.prog X.w X.K k G H a acc) :
    (a == sysModules) = false ∧ ∃ xs, s.heap.DictOfH (nestedKind X.prog X.w) a xs ∧ Paired (RowN X.K G) acc xs := by
  obtain ⟨sg, _, _, hp, ⟨e, _⟩ | ⟨_, ⟨rfl, e⟩ | ⟨xs, e, r⟩⟩⟩ := B
  · exact absurd e hk
  · obtain ⟨_, lo, vs, kv, d⟩ := dk_of I.hok e
    cases kv
    exact ⟨lo, [], dict_keyed0 d, .nil⟩
  · obtain ⟨⟨lo, o, es, ep, ho, hc, hd, he, hn⟩, _, _⟩ := (show ObjOk X.prog X.w H s.heap a (DN X.prog X.w a xs) from I.hok a _ e)
    refine ⟨lo, xs, ⟨o, es, ep, ho, hc, hd, he, fun x hx => ?_, hn⟩, r⟩
    obtain ⟨p, hp', h1, h2, h3, _⟩ := mem_right r x hx
    obtain ⟨as, rd⟩ := Dd.reads I _ _ _ (h2.up sg) (show RelV (.ref x.2.1) (.ref x.2.1) from rfl)
    rw [h1]
    exact ⟨nk_is _ rd, by rw [nk_deep]; exact h3⟩
theorem rowN_at {K : PySem.W.Frag} : ∀ {acc : Rows} {xs : List (NestedKey × Addr × Value)}, Paired (RowN K G) acc xs → ∀ x : PV,
    (getR acc x = none ∧ atKey xs (nkP x) = none) ∨ ∃ n b t, getR acc x = some n ∧ atKey xs (nkP x) = some (b, .int n t)
  | _, _, .nil, x => .inl ⟨rfl, rfl⟩
  | p :: acc, y :: xs, .cons ⟨h1, _, _, t, h4⟩ r, x => by
    by_cases e : p.1 = x
    · refine .inr ⟨p.2, y.2.1, t, by rw [getR, if_pos e], ?_⟩
      have e2 : y.1 = nkP x := by rw [h1, e]
      simp only [atKey, List.find?_cons, e2, decide_true, Option.map_some]
      rw [← h4]
    · have e2 : ¬ y.1 = nkP x := fun z => e (nkP_inj (h1.symm.trans z))
      have ih := rowN_at r x
      have e3 : atKey (y :: xs) (nkP x) = atKey xs (nkP x) := by simp only [atKey, List.find?_cons, e2, decide_false]
      rw [getR, if_neg e, e3]
      exact ih
theorem map_put {κ : Type} [DecidableEq κ] {k : κ} {v : Value} : ∀ {xs : List (κ × Addr × Value)}, k ∉ xs.map (·.1) → xs.map (putAt k v) = xs
  | [], _ => rfl
  | x :: xs, h => by
    rw [List.map_cons, map_put fun z => h (by rw [List.map_cons]; exact List.mem_cons_of_mem _ z)]
    have : ¬ x.1 = k := fun e => h (by rw [List.map_cons, e]; exact List.mem_cons_self)
    rw [putAt, if_neg this]
theorem storedH_cons {κ : Type} [DecidableEq κ] {k : κ} {b : Addr} {v : Value} {x : κ × Addr × Value} {xs : List (κ × Addr × Value)} (h : ((x :: xs).map (·.1)).Nodup) :
    storedH (x :: xs) k b v = if x.1 = k then (x.1, x.2.1, v) :: xs else x :: storedH xs k b v := by
  rw [List.map_cons, List.nodup_cons] at h
  unfold storedH
  by_cases e : x.1 = k
  · have e1 : (atKey (x :: xs) k).isSome = true := by simp [atKey, e]
    rw [if_pos e1, if_pos e, List.map_cons, map_put (by rw [← e]; exact h.1), putAt, if_pos e]
  · have e1 : atKey (x :: xs) k = atKey xs k := by simp [atKey, e]
    rw [e1, if_neg e]
    split
    · rw [List.map_cons, putAt, if_neg e]
    · rw [List.cons_append]
theorem rowN_put {K : PySem.W.Frag} {b : Addr} {p : PV} {n : Int} {t : Tok} (hb : Dd K G (.ref b) (encP p)) (hd : pd p ≤ 8) : ∀ {acc : Rows} {xs : List (NestedKey × Addr × Value)}, Paired (RowN K G) acc xs → (xs.map (·.1)).Nodup →
    Paired (RowN K G) (putR acc p n) (storedH xs (nkP p) b (.int n t))
  | _, _, .nil, _ => .cons ⟨rfl, hb, hd, t, rfl⟩ .nil
  | q :: acc, y :: xs, .cons h r, hn => by
    rw [storedH_cons hn, putR]
    obtain ⟨h1, h2, h3, h4⟩ := id h
    by_cases e : q.1 = p
    · have e2 : y.1 = nkP p := by rw [h1, e]
      rw [if_pos e, if_pos e2]
      exact .cons ⟨h1, h2, h3, t, rfl⟩ r
    · have e2 : ¬ y.1 = nkP p := fun z => e (nkP_inj (h1.symm.trans z))
      rw [if_neg e, if_neg e2]
      rw [List.map_cons, List.nodup_cons] at hn
      exact .cons h (rowN_put hb hd r hn.2)
theorem num_of {p : PV} (h : hasP .num p) : p = .num (numP p) := by cases p <;> first | rfl | exact h.elim
theorem keyI_at : ∀ {acc : Rows} (i : Int), (∀ p ∈ acc, hasP .num p.1) → valV (acc.map keyI) (.inl i : Key) = (getR acc (.num i)).map V.int
  | [], i, _ => rfl
  | p :: acc, i, h => by
    have e0 := num_of (h p List.mem_cons_self)
    have ih := keyI_at (acc := acc) i fun q hq => h q (List.mem_cons_of_mem _ hq)
    rw [List.map_cons]
    by_cases e : numP p.1 = i
    · rw [valV_pos (show (keyI p).1 = .inl i from congrArg Sum.inl e), getR, if_pos (by rw [e0, e])]
      rfl
    · rw [getR, if_neg (fun z => e (by rw [z]; rfl)), ← ih]
      simp only [valV, List.find?_cons]
      rw [show decide ((keyI p).1 = (Sum.inl i : Key)) = false from decide_eq_false fun z => e (Sum.inl.inj z)]
theorem keyI_put {n : Int} : ∀ {acc : Rows} (i : Int), (∀ p ∈ acc, hasP .num p.1) → (acc.map (·.1)).Nodup → putK (acc.map keyI) (.inl i : Key) (.int n) = (putR acc (.num i) n).map keyI
  | [], i, _, _ => rfl
  | p :: acc, i, h, hn => by
    have e0 := num_of (h p List.mem_cons_self)
    rw [List.map_cons, List.nodup_cons] at hn
    have ih := keyI_put (n := n) (acc := acc) i (fun q hq => h q (List.mem_cons_of_mem _ hq)) hn.2
    rw [List.map_cons, putR]
    unfold putK
    by_cases e : numP p.1 = i
    · have e1 : (keyI p).1 = (Sum.inl i : Key) := congrArg Sum.inl e
      have e2 : p.1 = .num i := by rw [e0, e]
      have rest : (acc.map keyI).map (fun kv => if kv.1 = (Sum.inl i : Key) then (kv.1, V.int n) else kv) = acc.map keyI := by
        rw [List.map_map]
        refine List.map_congr_left fun q hq => ?_
        have ne : ¬ (keyI q).1 = (Sum.inl i : Key) := fun z => hn.1 (List.mem_map.mpr ⟨q, hq, by rw [e2, num_of (h q (List.mem_cons_of_mem _ hq)), Sum.inl.inj z]⟩)
        show (if (keyI q).1 = (Sum.inl i : Key) then _ else keyI q) = _
        rw [if_neg ne]
      rw [if_pos (by rw [List.any_cons, decide_eq_true e1]; rfl), if_pos e2, List.map_cons, List.map_cons, if_pos e1, rest]
      rfl
    · have e1 : ¬ (keyI p).1 = (Sum.inl i : Key) := fun z => e (Sum.inl.inj z)
      have e2 : ¬ p.1 = .num i := fun z => e (by rw [z]; rfl)
      rw [List.any_cons, decide_eq_false e1, Bool.false_or, if_neg e2, List.map_cons, show List.map keyI (p :: putR acc (.num i) n) = keyI p :: List.map keyI (putR acc (.num i) n) from rfl, ← ih]
      unfold putK
      split
      · first | rfl | rw [List.map_cons, if_neg e1]
      · rw [List.cons_append]
theorem room_of {A : Around} (hu : A.units + 20 < cLine) : (nestedKind X.prog X.w).room A.in1 := by
  show A.units + 1 + 8 < cLine
  omega
theorem ref_of {v : V} {p : PV} (h : Dd X.K G v (encP p)) (hk : hasP k p) (ne : k ≠ .num) : ∃ b, v = .ref b := by
  cases p with
  | num i => cases k <;> first | exact absurd rfl ne | exact hk.elim
  | unit => obtain ⟨b, _, e, _⟩ := Dd.seqT (show Dd X.K G v (.tuple []) from h); exact ⟨b, e⟩
  | pair x y => obtain ⟨b, _, e, _⟩ := Dd.seqT (show Dd X.K G v (.tuple [.str "pair", encP x, encP y]) from h); exact ⟨b, e⟩
  | left x => obtain ⟨b, _, e, _⟩ := Dd.seqT (show Dd X.K G v (.tuple [.str "left", encP x]) from h); exact ⟨b, e⟩
  | right x => obtain ⟨b, _, e, _⟩ := Dd.seqT (show Dd X.K G v (.tuple [.str "right", encP x]) from h); exact ⟨b, e⟩
theorem bag_get {A : Around} {E : Value → Shared → Prop} {y : V} {u r : Value} {p : PV} {Q : Value → Shared → Prop} (hu : A.units + 20 < cLine) (I : Inv X pins σ H s) (B : BagO X.prog X.w X.K k G H a acc)
    (hy : Dd X.K G y (encP p)) (hk : hasP k p) (hd : pd p ≤ 8) (ry : RelV y u) (rd : RelV (.int 0) r) (h : ∀ w' s', Inv X pins σ H s' → RelV (.int ((getR acc p).getD 0)) w' → Q w' s') :
    wpAny (model X.prog X.w) A (call (.builtin "dict.get") [.ref a, u, r]) Q E s := by
  by_cases ek : k = .num
  · subst ek
    obtain ⟨sg, hn, hl, hp, ⟨_, e⟩ | ⟨ne, _⟩⟩ := B
    · have ep := num_of hk
      rw [ep] at hy
      cases (show Dd X.K G y (.int (numP p)) from hy)
      refine d_get2 (o := (getR acc p).map V.int) (d := .int 0) (by omega) I ?_ ry rd fun w' s' I' r' => h w' s' I' ?_
      · have z := DGet.k (k := (.inl (numP p) : Key)) e
        rw [keyI_at _ hp] at z
        rw [ep]
        exact z
      · cases q : getR acc p with
        | none => rw [q] at r'; exact r'
        | some n => rw [q] at r'; exact r'
    · exact absurd rfl ne
  · obtain ⟨lo, xs, D, rr⟩ := bag_keyed I ek B
    obtain ⟨b, rfl⟩ := ref_of (X := X) hy hk ek
    cases ry
    obtain ⟨as, rdd⟩ := Dd.reads I _ _ _ (hy.up B.1) (show RelV (.ref b) (.ref b) from rfl)
    refine getOr_keyed (knd := nestedKind X.prog X.w) (k := nkP p) (room_of hu) ⟨nk_is _ rdd, by rw [nk_deep]; exact hd⟩ lo ⟨xs, D, rfl⟩ ?_
    rw [valueAt_pairsH]
    rcases rowN_at rr p with ⟨e1, e2⟩ | ⟨n, c, t, e1, e2⟩
    · rw [e2]
      refine h _ _ (I.tok _) ?_
      rw [e1]
      exact rd
    · rw [e2]
      refine h _ _ (I.tok _) ?_
      rw [e1]
      exact ⟨t, rfl⟩
/-- found.get(x, 0) -/
def tBagGet (P : Program) (w : World) (K : PySem.W.Frag) (td ty tx : TE) : TE := fun σ H Q => td σ H fun x H1 => ∃ a k G acc, x = .ref a ∧ BagO P w K k G H1 a acc ∧ ty σ H1 fun y H2 => tx σ H2 fun z H3 =>
  ∃ p, BagO P w K k G H3 a acc ∧ Dd K G y (encP p) ∧ hasP k p ∧ pd p ≤ 8 ∧ z = .int 0 ∧ Q (.int ((getR acc p).getD 0)) H3
theorem bag_type (I : Inv X pins σ H s) (B : BagO X.prog X.w X.K k G H a acc) : s.TypeIs (.ref a) "dict" ∧ (∀ b, Value.ref a = .ref b → ∃ ob, s.heap.get? b = some ob ∧ ob.dict = none) ∧ (a == sysModules) = false := by
  by_cases ek : k = .num
  · subst ek
    obtain ⟨sg, hn, hl, hp, ⟨_, e⟩ | ⟨ne, _⟩⟩ := B
    · exact isD_at I (.inl ⟨_, .inl e⟩)
    · exact absurd rfl ne
  · obtain ⟨lo, xs, D, _⟩ := bag_keyed I ek B
    refine ⟨D.typeIs, fun b q => ?_, lo⟩
    cases q
    obtain ⟨ob, _, _, h1, h2, _⟩ := D
    exact ⟨ob, h1, h2.2.1⟩
theorem pe_bagGet {o e f : Expr} {td ty tx : TE} {apos cpos : Pos} (hu : X.A.units + 20 < cLine) (ho : PE X o td) (he : PE X e ty) (hf : PE X f tx) (m : M2 X o "get" apos e f cpos) :
    PE X (.Call (.Attribute o "get" apos) [e, f] [] cpos) (tBagGet X.prog X.w X.K td ty tx) := by
  refine ⟨fun pins s σ H Q I h => ?_⟩
  refine wpAny_Call_method m.base m.few m.line PySem.F.plainAttrs_dict PySem.F.slot_dict_get PySem.F.type_dict_get (thn (ho.run pins s σ H _ I h) fun u s1 ⟨x, H1, I1, rx, a, k, G, acc, ex, d, q1⟩ => ?_)
  subst ex
  obtain rfl : u = Value.ref a := rx
  obtain ⟨t1, t2, _⟩ := bag_type I1 d
  refine ⟨t1, t2, ?_⟩
  rw [m.trees]
  refine Calls.callWith_builtin rfl (Calls.evalArgs_plain (Calls.spliced_cons (thn (he.run pins s1 σ H1 _ I1 q1) fun iv s2 ⟨y, H2, I2, ry, q2⟩ =>
    Calls.spliced_cons (thn (hf.run pins s2 σ H2 _ I2 q2) fun fv s3 ⟨z, H3, I3, rz, p, B, hy, hk, hd, ez, q3⟩ => Calls.spliced_nil ?_))))
  subst ez
  exact bag_get hu I3 B hy hk hd ry rz fun w' s4 I4 rw' => ⟨_, H3, I4, rw', q3⟩
/-- found[x] -/
def rBagIx (P : Program) (w : World) (K : PySem.W.Frag) : R2 := fun x y H Q => ∃ a k G acc p n, x = .ref a ∧ BagO P w K k G H a acc ∧ Dd K G y (encP p) ∧ hasP k p ∧ pd p ≤ 8 ∧ getR acc p = some n ∧ Q (.int n) H
theorem ix_bag (hu : X.A.units + 20 < cLine) : IxR X (rBagIx X.prog X.w X.K) := by
  intro value slice pins s σ H x y v u Q I rx ry h hs
  obtain ⟨a, k, G, acc, p, n, rfl, B, hy, hk, hd, hg, q⟩ := h
  obtain rfl : v = Value.ref a := rx
  obtain ⟨t1, t2, lo⟩ := bag_type I B
  refine tail_any t1 PySem.slot_dict_getitem.lookup ?_ hs
  by_cases ek : k = .num
  · subst ek
    have B' := B
    obtain ⟨sg, hn, hl, hp, ⟨_, e⟩ | ⟨ne, _⟩⟩ := B'
    · have ep := num_of hk
      rw [ep] at hy
      cases (show Dd X.K G y (.int (numP p)) from hy)
      refine d_getItem (v := .int n) (by omega) I ?_ ry fun w' s' I' r' => ⟨_, H, I', r', q⟩
      have z := DGet.k (k := (.inl (numP p) : Key)) e
      rw [keyI_at _ hp, ← ep, hg] at z
      exact z
    · exact absurd rfl ne
  · obtain ⟨_, xs, D, rr⟩ := bag_keyed I ek B
    obtain ⟨b, rfl⟩ := ref_of (X := X) hy hk ek
    cases ry
    obtain ⟨as, rdd⟩ := Dd.reads I _ _ _ (hy.up B.1) (show RelV (.ref b) (.ref b) from rfl)
    rcases rowN_at rr p with ⟨e1, e2⟩ | ⟨n', c, t, e1, e2⟩
    · rw [e1] at hg
      cases hg
    · rw [e1] at hg
      cases hg
      exact wpAny_getItem_heap (knd := nestedKind X.prog X.w) (room_of hu) ⟨nk_is _ rdd, by rw [nk_deep]; exact hd⟩ D e2 ⟨.int n, H, I.tok _, ⟨t, rfl⟩, q⟩
/-- found[x] = n -/
def rBagSet (P : Program) (w : World) (K : PySem.W.Frag) : TSet := fun o i v H Q => ∃ a k G acc p n, o = .ref a ∧ BagO P w K k G H a acc ∧ G a = none ∧ Dd K G i (encP p) ∧ hasP k p ∧ pd p ≤ 8 ∧ v = .int n ∧ acc.length < 63 ∧
  ∀ ob, BagO P w K k G (upd H a ob) a (putR acc p n) → Q (upd H a ob)
theorem set_bag (hu : X.A.units + 20 < cLine) : PSet X (rBagSet X.prog X.w X.K) := by
  intro pins s σ H o i v ov iv u Q I ro ri rv h
  obtain ⟨a, k, G, acc, p, n, rfl, B, ga, hy, hk, hd, rfl, hl63, q⟩ := h
  obtain rfl : ov = Value.ref a := ro
  have up : ∀ ob, Same G (upd H a ob) := fun ob b o e => by
    by_cases hb : b = a
    · rw [hb, ga] at e
      cases e
    · rw [upd_ne hb]
      exact B.1 b o e
  have len : (putR acc p n).length < 64 := Nat.lt_of_le_of_lt putR_len (by omega)
  have has : ∀ q ∈ putR acc p n, hasP k q.1 := fun q hq => by
    rcases putR_keys hq with e | ⟨q', h1, h2⟩
    · rw [e]; exact hk
    · rw [← h2]; exact B.2.2.2.1 q' h1
  by_cases ek : k = .num
  · subst ek
    have B' := B
    obtain ⟨sg, hn, hl, hp, ⟨_, e⟩ | ⟨ne, _⟩⟩ := B'
    · have ep := num_of hk
      rw [ep] at hy
      cases (show Dd X.K G i (.int (numP p)) from hy)
      have z := DPut.k (k := (.inl (numP p) : Key)) (v := .int n) e (by rw [List.length_map, sizeLine_eq]; omega)
      refine d_setItem (by omega) I z ri rv fun s' I' => ⟨_, I', q _ ⟨up _, putR_nodup hn, len, has, .inl ⟨rfl, ?_⟩⟩⟩
      rw [upd_same, keyI_put _ hp hn, ← ep]
    · exact absurd rfl ne
  · obtain ⟨lo, xs, D, rr⟩ := bag_keyed I ek B
    obtain ⟨b, rfl⟩ := ref_of (X := X) hy hk ek
    cases ri
    obtain ⟨t, rfl⟩ := rv
    obtain ⟨as, rdd⟩ := Dd.reads I _ _ _ (hy.up B.1) (show RelV (.ref b) (.ref b) from rfl)
    have hmut : Mut (H a) := by
      obtain ⟨_, _, _, _, ⟨e, _⟩ | ⟨_, ⟨_, e⟩ | ⟨xs, e, _⟩⟩⟩ := B
      · exact absurd e ek
      · rw [e]; trivial
      · rw [e]; trivial
    refine wpAny_setItem_heap (knd := nestedKind X.prog X.w) (room_of hu) ⟨nk_is _ rdd, by rw [nk_deep]; exact hd⟩ D (fun h' D' sb => ?_) (by
      have z := pair_len rr
      have z2 := B.2.2.1
      rw [sizeLine_eq]
      omega)
    have he : ∃ q, h'.get? a = some q := by obtain ⟨o, _, _, ho, _⟩ := D'; exact ⟨o, ho⟩
    refine ⟨_, d_write (t' := s.toks + (nestedKind X.prog X.w).draws (nkP p)) I hmut sb he (dn_obj lo D'), q _ ⟨up _, putR_nodup B.2.1, len, has, .inr ⟨ek, .inr ⟨_, upd_same, rowN_put hy hd rr ?_⟩⟩⟩⟩
    obtain ⟨_, _, _, _, _, _, _, _, hn⟩ := D
    exact hn
end
end Z
namespace Z
open PySem PySem.Spec PyProof.Rows L2 PySem.SeqAt SrtO
section
variable {prog : Program} {w : World} {A : Around} {s : Shared} {k : DK} {D : Nat}
theorem swo_pv {α : Type} (f : α → PV) : Swo fun v u => PV.lt (f v) (f u) := ⟨fun x y h => PV.lt_asym h, fun x y z h1 h2 => by
  rcases PV.lt_tri (f x) (f y) with e | l | l
  · rw [e]; exact h2
  · rcases PV.lt_tri (f y) (f z) with e | l2 | l2
    · rw [← e]; exact h1
    · exact PV.lt_asym (PV.lt_trans _ _ _ l l2)
    · rw [h2] at l2; cases l2
  · rw [h1] at l; cases l⟩
/-- pairs and sides -/
def twoK : DK → Bool
  | .pair _ _ => true
  | .either _ _ => true
  | _ => false
theorem first_str {h : Heap} {x : PV} {v : Value} {as : List Addr} (ht : twoK k = true) (hx : hasP k x) (r : Reads h v (encP x) as) :
    ∃ a o xs n t l, v = .ref a ∧ h.get? a = some o ∧ o.cls = .type "tuple" ∧ o.data = .seq xs n ∧ xs[0]? = some (.str t l) := by
  cases x with
  | unit => cases k <;> first | exact hx.elim | cases ht
  | num i => cases k <;> first | exact hx.elim | cases ht
  | pair x y =>
    obtain ⟨t, l, _, _, _, _, rfl, ⟨o, g, c, n, d⟩, _, _⟩ := reads3 r
    exact ⟨t, o, _, n, _, l, rfl, g, c, d, rfl⟩
  | left x =>
    obtain ⟨t, l, _, _, rfl, ⟨o, g, c, n, d⟩, _⟩ := reads2 r
    exact ⟨t, o, _, n, _, l, rfl, g, c, d, rfl⟩
  | right x =>
    obtain ⟨t, l, _, _, rfl, ⟨o, g, c, n, d⟩, _⟩ := reads2 r
    exact ⟨t, o, _, n, _, l, rfl, g, c, d, rfl⟩
theorem firstsK {h : Heap} {f : Value → PV} (ht : twoK k = true) : ∀ {vs : List Value}, (∀ v ∈ vs, hasP k (f v) ∧ ∃ as, Reads h v (encP (f v)) as) →
    ∃ fs : List Value, PySem.W.KatTups h vs fs ∧ fs.length = vs.length ∧ ∀ g ∈ fs, ∃ t l, g = .str t l
  | [], _ => ⟨[], PySem.W.KatTups.nil, rfl, fun _ z => nomatch z⟩
  | v :: vs, hv => by
    obtain ⟨fs, k1, k2, k3⟩ := firstsK ht (vs := vs) fun u hu => hv u (List.mem_cons_of_mem _ hu)
    obtain ⟨h1, as, r⟩ := hv v List.mem_cons_self
    obtain ⟨a, o, xs, n, t, l, rfl, g, c, d, e⟩ := first_str ht h1 r
    refine ⟨.str t l :: fs, PySem.W.KatTups.cons g c d e k1, congrArg Nat.succ k2, fun y hy => ?_⟩
    rcases List.mem_cons.mp hy with rfl | hy
    · exact ⟨t, l, rfl⟩
    · exact k3 y hy
theorem key_cmp {vs : List Value} {f : Value → PV} (ht : twoK k = true) (hp : ∀ v ∈ vs, hasP k (f v) ∧ (∃ as, Reads s.heap v (encP (f v)) as) ∧ pd (f v) ≤ D) (hu : A.units + 2 * D < cLine) :
    Cmp prog w A s (tuples' true) (fun p => p.1 ∈ vs) (lt2 fun v u => PV.lt (f v) (f u)) := by
  intro p q m1 m2
  obtain ⟨h1, ⟨as, r1⟩, z1⟩ := hp _ m1
  obtain ⟨h2, ⟨bs, r2⟩, z2⟩ := hp _ m2
  show wpAny (model prog w) A (keyLt' (tuples' true) p.1 q.1) (fun r s' => s' = s ∧ r = PV.lt (f p.1) (f q.1)) (fun _ _ => False) s
  generalize f p.1 = x at h1 r1 z1 ⊢
  generalize f q.1 = y at h2 r2 z2 ⊢
  have one : ∀ {k' : DK} {x' y' : PV} {u v : Value} {cs ds : List Addr} {i : Nat}, 0 < i → hasP k' x' → hasP k' y' → Reads s.heap u (encP x') cs → Reads s.heap v (encP y') ds → A.units + pd x' + pd y' < cLine → PV.lt x y = PV.lt x' y' →
      wpAny (model prog w) A (oneLt' (true && i == 0) u v) (fun r s' => s' = s ∧ r = PV.lt x y) (fun _ _ => False) s := by
    intro k' x' y' u v cs ds i hi a1 a2 b1 b2 hu' e
    have e0 : (true && i == 0) = false := by
      cases i with
      | zero => exact absurd hi (Nat.lt_irrefl 0)
      | succ i => rfl
    rw [e0]
    exact PySem.W.kat_one _ _ (rc_lt (s := s) (A := A) a1 a2 b1 b2 hu' prog w (fun _ _ => False) (PySem.W.BoolBack fun r s' => s' = s ∧ r = PV.lt x y) ⟨rfl, e.symm⟩)
  cases x with
  | unit => cases k <;> first | exact h1.elim | cases ht
  | num i => cases k <;> first | exact h1.elim | cases ht
  | pair a b =>
    cases k <;> try exact h1.elim
    cases y <;> try exact h2.elim
    rename_i c d
    obtain ⟨a1, a2⟩ := h1
    obtain ⟨b1, b2⟩ := h2
    obtain ⟨t, l, _, _, _, _, e1, ⟨o, g, cl, n, dd⟩, q1, q2⟩ := reads3 r1
    obtain ⟨t', l', _, _, _, _, e2, ⟨o', g', cl', n', dd'⟩, q3, q4⟩ := reads3 r2
    simp only [pd] at z1 z2
    rw [e1, e2]
    refine PySem.W.kat_lt g dd g' dd' (PySem.W.kat_cons (eqStr (s := s) A _ _ l l' prog w _ _ ?_))
    rw [beq_self_eq_true]
    refine PySem.W.kat_yes (PySem.W.kat_cons (eq_of (s := s) (A := A) a1 b1 q1 q3 (by omega) prog w _ _ ?_))
    refine PySem.W.kat_go (fun e => ?_) (fun e => ?_)
    · have ea : a = c := of_decide_eq_true e
      refine PySem.W.kat_yes (PySem.W.kat_cons (eq_of (s := s) (A := A) a2 b2 q2 q4 (by omega) prog w _ _ ?_))
      refine PySem.W.kat_go (fun e' => ?_) (fun e' => ?_)
      · have eb : b = d := of_decide_eq_true e'
        refine PySem.W.kat_yes (PySem.W.kat_nil ⟨rfl, ?_⟩)
        rw [ea, eb, PV.lt_irr]
        rfl
      · refine PySem.W.kat_no (one (by decide) a2 b2 q2 q4 (by omega) ?_)
        rw [ea]
        simp [PV.lt, PV.rk]
    · have ea : ¬ a = c := of_decide_eq_false e
      refine PySem.W.kat_no (one (by decide) a1 b1 q1 q3 (by omega) ?_)
      simp [PV.lt, PV.rk, ea]
  | left a =>
    cases k <;> try exact h1.elim
    rename_i ka kb
    obtain ⟨t, l, _, _, e1, ⟨o, g, cl, n, dd⟩, q1⟩ := reads2 r1
    cases y <;> try exact h2.elim
    · rename_i c
      obtain ⟨t', l', _, _, e2, ⟨o', g', cl', n', dd'⟩, q3⟩ := reads2 r2
      simp only [pd] at z1 z2
      rw [e1, e2]
      refine PySem.W.kat_lt g dd g' dd' (PySem.W.kat_cons (eqStr (s := s) A _ _ l l' prog w _ _ ?_))
      rw [beq_self_eq_true]
      refine PySem.W.kat_yes (PySem.W.kat_cons (eq_of (s := s) (A := A) (k := ka) (x := a) (y := c) h1 h2 q1 q3 (by omega) prog w _ _ ?_))
      refine PySem.W.kat_go (fun e' => ?_) (fun e' => ?_)
      · have eb : a = c := of_decide_eq_true e'
        refine PySem.W.kat_yes (PySem.W.kat_nil ⟨rfl, ?_⟩)
        rw [eb, PV.lt_irr]
        rfl
      · refine PySem.W.kat_no (one (k' := ka) (x' := a) (y' := c) (by decide) h1 h2 q1 q3 (by omega) ?_)
        simp [PV.lt, PV.rk]
    · rename_i c
      obtain ⟨t', l', _, _, e2, ⟨o', g', cl', n', dd'⟩, q3⟩ := reads2 r2
      rw [e1, e2]
      refine PySem.W.kat_lt g dd g' dd' (PySem.W.kat_cons (eqStr (s := s) A _ _ l l' prog w _ _ ?_))
      rw [ne_lr]
      refine PySem.W.kat_no (oneLt_str ⟨rfl, ?_⟩)
      rw [decide_eq_true (by decide +kernel)]
      simp [PV.lt, PV.rk]
  | right a =>
    cases k <;> try exact h1.elim
    rename_i ka kb
    obtain ⟨t, l, _, _, e1, ⟨o, g, cl, n, dd⟩, q1⟩ := reads2 r1
    cases y <;> try exact h2.elim
    · rename_i c
      obtain ⟨t', l', _, _, e2, ⟨o', g', cl', n', dd'⟩, q3⟩ := reads2 r2
      rw [e1, e2]
      refine PySem.W.kat_lt g dd g' dd' (PySem.W.kat_cons (eqStr (s := s) A _ _ l l' prog w _ _ ?_))
      rw [ne_rl]
      refine PySem.W.kat_no (oneLt_str ⟨rfl, ?_⟩)
      rw [decide_eq_false (by decide +kernel)]
      simp [PV.lt, PV.rk]
    · rename_i c
      obtain ⟨t', l', _, _, e2, ⟨o', g', cl', n', dd'⟩, q3⟩ := reads2 r2
      simp only [pd] at z1 z2
      rw [e1, e2]
      refine PySem.W.kat_lt g dd g' dd' (PySem.W.kat_cons (eqStr (s := s) A _ _ l l' prog w _ _ ?_))
      rw [beq_self_eq_true]
      refine PySem.W.kat_yes (PySem.W.kat_cons (eq_of (s := s) (A := A) (k := kb) (x := a) (y := c) h1 h2 q1 q3 (by omega) prog w _ _ ?_))
      refine PySem.W.kat_go (fun e' => ?_) (fun e' => ?_)
      · have eb : a = c := of_decide_eq_true e'
        refine PySem.W.kat_yes (PySem.W.kat_nil ⟨rfl, ?_⟩)
        rw [eb, PV.lt_irr]
        rfl
      · refine PySem.W.kat_no (one (k' := kb) (x' := a) (y' := c) (by decide) h1 h2 q1 q3 (by omega) ?_)
        simp [PV.lt, PV.rk]
theorem keys_sortable {a : Addr} {vs : List Value} {f : Value → PV} (h0 : 0 < vs.length) (ht : twoK k = true) (hp : ∀ v ∈ vs, hasP k (f v) ∧ (∃ as, Reads s.heap v (encP (f v)) as) ∧ pd (f v) ≤ D)
    (ha : ∀ o, s.heap.get? a = some o → o.cls ≠ .type "tuple") (hu : A.units + 2 * D < cLine) : SortableO prog w A s a vs (fun v u => PV.lt (f v) (f u)) := by
  intro h' keep
  have hp' : ∀ v ∈ vs, hasP k (f v) ∧ (∃ as, Reads h' v (encP (f v)) as) ∧ pd (f v) ≤ D := fun v hm => by
    obtain ⟨z1, ⟨as, z2⟩, z3⟩ := hp v hm
    exact ⟨z1, keepP keep ha _ _ _ z2, z3⟩
  obtain ⟨fs, k1, k2, k3⟩ := firstsK ht fun v hm => ⟨(hp' v hm).1, (hp' v hm).2.1⟩
  refine ⟨tuples' (Value.type "str" != Value.type "tuple"), fun Q E hq => ?_, ?_⟩
  · refine PySem.W.kat_kind (s := { s with heap := h' }) (T := .type "str") k1 (by omega) (fun g hm => ?_) (by first | rfl | decide +kernel) hq
    obtain ⟨t, l, rfl⟩ := k3 g hm
    exact PySem.W.Looks.of_pure rfl
  · have e : (Value.type "str" != Value.type "tuple") = true := by first | rfl | decide +kernel
    rw [e]
    exact key_cmp (s := { s with heap := h' }) ht hp' hu
end
open Classical in
noncomputable def decP (h : Heap) (k : DK) (v : Value) : PV := if c : ∃ x, hasP k x ∧ ∃ as, Reads h v (encP x) as then c.choose else .unit
open Classical in
theorem decP_eq {h : Heap} {k : DK} {v : Value} {x : PV} {as : List Addr} (hx : hasP k x) (r : Reads h v (encP x) as) : decP h k v = x := by
  have c : ∃ x, hasP k x ∧ ∃ as, Reads h v (encP x) as := ⟨x, hx, as, r⟩
  unfold decP
  rw [dif_pos c]
  obtain ⟨h1, bs, r1⟩ := c.choose_spec
  exact encP_inj h1 hx (Reads.unique _ _ _ _ _ (lay_encP _) r1 r)
def rBagSort (P : Program) (w : World) (K : PySem.W.Frag) : List V → Hp → VK → Prop := fun vs H Q => ∃ a k G acc, vs = [.ref a] ∧ BagO P w K k G H a acc ∧ (∀ p ∈ acc, pd p.1 ≤ 8) ∧
  ∀ (ys : List PV) (ws : List V) (p : Addr), ys.Perm (acc.map (·.1)) → ys.Pairwise (fun x y => PV.lt y x = false) → H p = none → Ds K G ws (ys.map encP) → Q (.ref p) (upd H p (.lst ws))
theorem keys_row {K : PySem.W.Frag} {G : Hp} {f : Value → PV} : ∀ {acc : Rows} {xs : List (NestedKey × Addr × Value)}, Paired (RowN K G) acc xs → (∀ p ∈ acc, ∀ b, Dd K G (.ref b) (encP p.1) → f (.ref b) = p.1) →
    (xs.map fun y => Value.ref y.2.1).map f = acc.map (·.1) ∧ ∀ u ∈ xs.map (fun y => Value.ref y.2.1), ∃ b p, p ∈ acc ∧ u = .ref b ∧ Dd K G (.ref b) (encP p.1) ∧ f u = p.1 ∧ pd p.1 ≤ 8
  | _, _, .nil, _ => ⟨rfl, fun _ z => nomatch z⟩
  | p :: acc, y :: xs, .cons ⟨h1, h2, h3, _⟩ r, hf => by
    obtain ⟨e1, e2⟩ := keys_row r fun q hq => hf q (List.mem_cons_of_mem _ hq)
    have e0 := hf p List.mem_cons_self _ h2
    refine ⟨by rw [List.map_cons, List.map_cons, List.map_cons, e0, e1], fun u hu => ?_⟩
    rw [List.map_cons] at hu
    rcases List.mem_cons.mp hu with rfl | hu
    · exact ⟨_, p, List.mem_cons_self, rfl, h2, e0, h3⟩
    · obtain ⟨b, q, hq, z⟩ := e2 u hu
      exact ⟨b, q, List.mem_cons_of_mem _ hq, z⟩
theorem twoK_of {k : DK} {acc : Rows} (ek : k ≠ .num) (hp : ∀ p ∈ acc, hasP k p.1) (hn : (acc.map (·.1)).Nodup) (h2 : 2 ≤ acc.length) : twoK k = true := by
  match acc, h2 with
  | p :: q :: acc, _ =>
    have a := hp p List.mem_cons_self
    have b := hp q (List.mem_cons_of_mem _ List.mem_cons_self)
    cases k with
    | num => exact absurd rfl ek
    | pair _ _ => rfl
    | either _ _ => rfl
    | bag _ =>
      cases e : p.1 <;> (rw [e] at a; exact a.elim)
    | unit =>
      have e1 : p.1 = .unit := by cases e : p.1 <;> first | rfl | (rw [e] at a; exact a.elim)
      have e2 : q.1 = .unit := by cases e : q.1 <;> first | rfl | (rw [e] at b; exact b.elim)
      rw [List.map_cons, List.map_cons, e1, e2] at hn
      exact absurd hn (by simp)
theorem ds_backP {K : PySem.W.Frag} {H : Hp} {f : Value → PV} : ∀ {us : List Value}, (∀ u ∈ us, Dd K H (backV u) (encP (f u))) → Ds K H (us.map backV) ((us.map f).map encP)
  | [], _ => .nil
  | u :: us, h => .cons (h u List.mem_cons_self) (ds_backP fun z hz => h z (List.mem_cons_of_mem _ hz))
theorem ds_ints {K : PySem.W.Frag} {H : Hp} : ∀ ns : List Int, Ds K H (ns.map V.int) ((ns.map PV.num).map encP)
  | [] => .nil
  | n :: ns => .cons (.int n) (ds_ints ns)
theorem cr_bagSort {X : Cx} (hu : X.A.units + 80 < cLine) (hc : X.calm = true) : CallR X (.builtin "sorted") (rBagSort X.prog X.w X.K) := by
  intro pins s σ H vs us Q I r h
  obtain ⟨a, k, G, acc, rfl, B, h8, q⟩ := h
  by_cases ek : k = .num
  · subst ek
    have B' := B
    obtain ⟨sg, hn, hl, hp, ⟨_, e⟩ | ⟨ne, _⟩⟩ := B'
    · refine call_sortedDI hc pins s σ H _ us Q I r ⟨a, acc.map keyI, acc.map fun p => numP p.1, rfl, .inl e, ?_, by rw [List.length_map]; exact hl, fun ys p hperm hord hnone => ?_⟩
      · rw [List.map_map, List.map_map]
        rfl
      · refine q (ys.map PV.num) _ p ?_ ?_ hnone (ds_ints ys)
        · have z := hperm.map PV.num
          rw [List.map_map] at z
          have e2 : acc.map (PV.num ∘ fun p => numP p.1) = acc.map (·.1) := List.map_congr_left fun p hp' => (num_of (hp p hp')).symm
          rwa [e2] at z
        · rw [List.pairwise_map]
          refine hord.imp fun {x y} hxy => ?_
          simp only [PV.lt, decide_eq_false_iff_not]
          omega
    · exact absurd rfl ne
  · obtain ⟨lo, xs, D, rr⟩ := bag_keyed I ek B
    obtain ⟨es, ep, hraw, hsz, hent⟩ := D.raw
    have hlen := pair_len rr
    have l64 := B.2.2.1
    have hz : es.size ≤ sizeLine := by rw [sizeLine_eq]; omega
    obtain ⟨u, rfl, ru⟩ := vals1 r
    obtain rfl : u = Value.ref a := ru
    refine Calls.call_function_entry PyProof.Rows.kind_sorted PyProof.Rows.plain_sorted PyProof.Rows.entry_sorted (PyProof.Rows.args_sorted1 _) ?_
    unfold Builtin.«sorted»
    refine wpAny_bind (m := checkCount "sorted" 1 1 _) (wpAny_pure ?_)
    refine wpAny_bind (PySem.W.kdu_collect (A := X.A.in1) (KdlSrc.rawDict (es := es) (ep := ep) lo) (I.ok.hd hc) hraw hz fun h' tk got hk hgot => ?_)
    have I1 : Inv X pins σ H { s with heap := h', toks := tk } := I.kept hk
    have egot : got.toList = xs.map fun y => Value.ref y.2.1 := by
      refine List.ext_getElem? fun j => ?_
      rw [List.getElem?_map]
      cases ej : got.toList[j]? with
      | none =>
        have : got.toList.length ≤ j := List.getElem?_eq_none_iff.mp ej
        rw [List.getElem?_eq_none (by rw [← hsz, ← hgot.1, ← Array.length_toList]; exact this)]
        rfl
      | some v =>
        obtain ⟨hi, ev⟩ := hgot.2 j v (by rw [← Array.getElem?_toList]; exact ej)
        obtain ⟨y, ey, e1, _⟩ := hent j hi
        rw [ey, ev, e1]
        rfl
    have hf : ∀ p ∈ acc, ∀ b, Dd X.K G (.ref b) (encP p.1) → decP h' k (.ref b) = p.1 := fun p hp b hd => by
      obtain ⟨as, rd⟩ := Dd.reads I1 _ _ _ (hd.up B.1) (show RelV (.ref b) (.ref b) from rfl)
      exact decP_eq (B.2.2.2.1 p hp) rd
    obtain ⟨f1, f2⟩ := keys_row rr hf
    rw [← egot] at f1 f2
    have gl : got.toList.length = acc.length := by rw [egot, List.length_map, hlen]
    have hz2 : got.toList.length ≤ sizeLine := by rw [gl, sizeLine_eq]; omega
    refine wpAny_bind (wpAny_newList ?_ hz2)
    have hoL : (h'.push (seqObj "list" got.toList.toArray 0)).get? h'.objs.size = some (seqObj "list" got.toList.toArray 0) := Heap.get?_push_size _ rfl
    have I2 : Inv X pins σ H { s with heap := h'.push (seqObj "list" got.toList.toArray 0), toks := tk } := I1.kept fun b o e => Heap.get?_push_of_some _ e
    show wpAny _ _ _ _ _ { s with heap := h'.push (seqObj "list" got.toList.toArray 0), toks := tk }
    refine wpAny_bind (wpAny_holding (wpAny_call_entry slot_list_sort ⟨_, hoL, rfl⟩ entry_list_sort
      (list_sort_ord (ltv := fun v u => PV.lt (decP h' k v) (decP h' k u)) (swo_pv _) (s := { s with heap := h'.push (seqObj "list" got.toList.toArray 0), toks := tk }) hoL hz2 (fun h2 => ?_) fun out hs hb => ⟨_, rfl, ?_⟩) (args_list_sort _)))
    · refine keys_sortable (k := k) (D := 8) (f := decP h' k) (by omega) (twoK_of ek B.2.2.2.1 B.2.1 (by omega)) (fun v hv => ?_) (fun o e => ?_) (by show X.A.units + 1 + 1 + 2 * 8 < cLine; omega)
      · obtain ⟨b, p, hp, rfl, hd, e, h8⟩ := f2 v hv
        obtain ⟨as, rd⟩ := Dd.reads I2 _ _ _ (hd.up B.1) (show RelV (.ref b) (.ref b) from rfl)
        rw [e]
        exact ⟨B.2.2.2.1 p hp, ⟨as, rd⟩, h8⟩
      · have e' : some o = some (seqObj "list" got.toList.toArray 0) := e.symm.trans hoL
        cases e'
        intro c
        exact absurd (Value.type.inj c) (by decide)
    · have pm : out.Perm got.toList := by simpa using hb.perm
      obtain ⟨e', he'⟩ := PyProof.Rows.sortedHeap_at (vs := got.toList) (out := out.toArray) hoL
      have at_out : ∀ u ∈ out, (∃ a, u = Value.ref a) ∧ Dd X.K G (backV u) (encP (decP h' k u)) := fun u hu' => by
        obtain ⟨b, p, _, rfl, hd, e, _⟩ := f2 u (pm.mem_iff.mp hu')
        refine ⟨⟨b, rfl⟩, ?_⟩
        rw [e]
        exact hd
      refine wpAny_pure ⟨_, rfl, .ref h'.objs.size, upd H h'.objs.size (.lst (out.map backV)), I1.laid (t' := tk) (fun b u e => ?_) (Nat.le_refl _) ⟨?_, out, e', vals_back fun u hu' => (at_out u hu').1, he'⟩, rfl,
        q (out.map (decP h' k)) _ _ ?_ (List.pairwise_map.mpr hs) (I1.hok.fresh (Nat.le_refl _)) (ds_backP fun u hu' => (at_out u hu').2)⟩
      · have hb : b < h'.objs.size := Heap.lt_size e
        rw [PyProof.Rows.sortedHeap_old (Nat.ne_of_lt hb) (by rw [size_push']; exact Nat.lt_succ_of_lt hb)]
        exact Heap.get?_push_of_some _ e
      · rw [List.length_map, pm.length_eq]
        exact hz2
      · rw [← f1]
        exact pm.map _
end Z
namespace M
open PySem PySem.Spec PyProof.Rows L2 Z
inductive AV where
  | d (x : PyData)
  | c (j : Nat)
  | t (n : String)
abbrev Cells := List (Option (List PyData))
abbrev Ms := List (Option Addr)
abbrev Env := List (Option AV)
def offs (ms : Ms) (H : Hp) : Hp := fun b => if some b ∈ ms then none else H b
section
variable {K : PySem.W.Frag} {ms ms' ms2 : Ms} {H H' H2 : Hp} {b a : Addr}
theorem offs_in (h : some b ∈ ms) : offs ms H b = none := if_pos h
theorem offs_out (h : some b ∉ ms) : offs ms H b = H b := if_neg h
theorem offs_same : Same (offs ms H) H := fun b o e => by
  by_cases h : some b ∈ ms
  · rw [offs_in h] at e; cases e
  · rwa [offs_out h] at e
theorem same_offs (s : Same H H') : Same (offs ms H) (offs ms H') := fun b o e => by
  by_cases h : some b ∈ ms
  · rw [offs_in h] at e; cases e
  · rw [offs_out h] at e ⊢
    exact s b o e
theorem offs_less (h : ∀ a, some a ∈ ms' → some a ∈ ms) : Same (offs ms H) (offs ms' H) := fun b o e => by
  by_cases hb : some b ∈ ms
  · rw [offs_in hb] at e; cases e
  · rw [offs_out hb] at e
    rw [offs_out fun z => hb (h b z)]
    exact e
/-- the cells as they stand -/
structure RepC (K : PySem.W.Frag) (ms : Ms) (C : Cells) (H : Hp) : Prop where
  len : ms.length = C.length
  one : ∀ (i j : Nat) (a : Addr), ms[i]? = some (some a) → ms[j]? = some (some a) → i = j
  cell : ∀ (j : Nat) (a : Addr), ms[j]? = some (some a) → ∃ xs ds, C[j]? = some (some ds) ∧ H a = some (.lst xs) ∧ Ds K (offs ms H) xs ds
  no : ∀ j : Nat, ms[j]? = some none → C[j]? = some none
structure Ext (ms ms' : Ms) (H H' : Hp) : Prop where
  len : ms.length ≤ ms'.length
  st : ∀ (j : Nat) (o : Option Addr), ms[j]? = some o → ms'[j]? = some o ∨ ms'[j]? = some none
  same : Same (offs ms H) (offs ms' H')
theorem Ext.refl : Ext ms ms H H := ⟨Nat.le_refl _, fun _ _ e => .inl e, Same.refl _⟩
theorem Ext.of (s : Same H H') : Ext ms ms H H' := ⟨Nat.le_refl _, fun _ _ e => .inl e, same_offs s⟩
theorem Ext.trans (x : Ext ms ms' H H') (y : Ext ms' ms2 H' H2) : Ext ms ms2 H H2 := by
  refine ⟨Nat.le_trans x.len y.len, fun j o e => ?_, x.same.trans y.same⟩
  rcases x.st j o e with h | h
  · exact y.st j o h
  · rcases y.st j none h with h | h <;> exact .inr h
theorem RepC.up {C : Cells} (r : RepC K ms C H) (s : Same H H') : RepC K ms C H' :=
  ⟨r.len, r.one, fun j a e => by
    obtain ⟨xs, ds, h1, h2, h3⟩ := r.cell j a e
    exact ⟨xs, ds, h1, s _ _ h2, h3.up (same_offs s)⟩, r.no⟩
theorem RepC.has {C : Cells} (r : RepC K ms C H) {j : Nat} {ds : List PyData} (e : C[j]? = some (some ds)) : ∃ a, ms[j]? = some (some a) := by
  have h : j < ms.length := by
    rw [r.len]
    exact (List.getElem?_eq_some_iff.mp e).1
  cases q : ms[j] with
  | none =>
    have z := r.no j (by rw [List.getElem?_eq_getElem h, q])
    rw [e] at z
    cases z
  | some a => exact ⟨a, by rw [List.getElem?_eq_getElem h, q]⟩
theorem mem_of_at {j : Nat} (e : ms[j]? = some (some a)) : some a ∈ ms := List.mem_of_getElem? e
theorem RepC.alive {C : Cells} (r : RepC K ms C H) (h : some a ∈ ms) : H a ≠ none := by
  obtain ⟨j, e⟩ := List.getElem?_of_mem h
  obtain ⟨xs, ds, _, h2, _⟩ := r.cell j a e
  rw [h2]
  exact nofun
theorem RepC.new {C : Cells} (r : RepC K ms C H) (h : H a = none) : some a ∉ ms := fun z => r.alive z h
def RV (K : PySem.W.Frag) (ms : Ms) (H : Hp) (v : V) : AV → Prop
  | .d x => Dd K (offs ms H) v x
  | .c j => ∃ a, v = .ref a ∧ (ms[j]? = some (some a) ∨ ms[j]? = some none)
  | .t n => v = .ty n
inductive RVs (K : PySem.W.Frag) (ms : Ms) (H : Hp) : List V → List AV → Prop
  | nil : RVs K ms H [] []
  | cons {v : V} {vs : List V} {a : AV} {as : List AV} (h : RV K ms H v a) (r : RVs K ms H vs as) : RVs K ms H (v :: vs) (a :: as)
theorem RV.ext {v : V} {av : AV} (h : RV K ms H v av) (x : Ext ms ms' H H') : RV K ms' H' v av := by
  cases av with
  | d y => exact Dd.up h x.same
  | c j =>
    obtain ⟨a, rfl, e⟩ := h
    refine ⟨a, rfl, ?_⟩
    rcases e with e | e
    · exact x.st j _ e
    · rcases x.st j _ e with e | e <;> exact .inr e
  | t n => exact h
theorem RVs.ext : ∀ {vs : List V} {as : List AV}, RVs K ms H vs as → Ext ms ms' H H' → RVs K ms' H' vs as
  | _, _, .nil, _ => .nil
  | _, _, .cons h r, x => .cons (h.ext x) (r.ext x)
theorem RVs.length : ∀ {vs : List V} {as : List AV}, RVs K ms H vs as → vs.length = as.length
  | _, _, .nil => rfl
  | _, _, .cons _ r => congrArg Nat.succ r.length
/-- as data where it is read -/
def AV.data (C : Cells) : AV → Option PyData
  | .d x => some x
  | .c j => C[j]?.join.map PyData.list
  | .t _ => none
theorem join_some {α : Type} {o : Option (Option α)} {x : α} (h : o.join = some x) : o = some (some x) := by
  match o, h with
  | some (some y), h => exact congrArg some h
theorem RV.full {C : Cells} {v : V} {av : AV} {x : PyData} (r : RepC K ms C H) (h : RV K ms H v av) (e : av.data C = some x) : Dd K H v x := by
  cases av with
  | d y => cases e; exact Dd.up h offs_same
  | c j =>
    obtain ⟨a, rfl, q⟩ := h
    obtain ⟨ds, hc, rfl⟩ := Option.map_eq_some_iff.mp (show C[j]?.join.map PyData.list = some x from e)
    have hc := join_some hc
    obtain ⟨b, hb⟩ := r.has hc
    have e2 : b = a := by
      rcases q with q | q
      · rw [hb] at q; cases q; rfl
      · rw [hb] at q; cases q
    subst e2
    obtain ⟨xs, ds', h1, h2, h3⟩ := r.cell j _ hb
    rw [hc] at h1
    cases h1
    exact .lst (SqM.of h2) (h3.up offs_same)
  | t n => cases e
/-- a sequence's elements -/
def AV.items (C : Cells) : AV → Option (List PyData)
  | .d (.tuple ds) => some ds
  | .d (.list ds) => some ds
  | .c j => C[j]?.join
  | _ => none
theorem RV.items {C : Cells} {v : V} {av : AV} {ds : List PyData} (r : RepC K ms C H) (h : RV K ms H v av) (e : av.items C = some ds) : ∃ a xs, v = .ref a ∧ (SqL K H a xs ∨ SqT K H a xs) ∧ Ds K (offs ms H) xs ds := by
  cases av with
  | d y =>
    cases y with
    | tuple es =>
      cases e
      obtain ⟨a, xs, rfl, hx, rx⟩ := Dd.seqT h
      exact ⟨a, xs, rfl, .inr (sameT offs_same hx), rx⟩
    | list es =>
      cases e
      cases (show Dd K (offs ms H) v (.list ds) from h) with
      | lst hs ha => exact ⟨_, _, rfl, .inl (offs_same.seq hs.seq), ha⟩
    | _ => cases e
  | c j =>
    obtain ⟨a, rfl, q⟩ := h
    have hc := join_some (show C[j]?.join = some ds from e)
    obtain ⟨b, hb⟩ := r.has hc
    have e2 : b = a := by
      rcases q with q | q
      · rw [hb] at q; cases q; rfl
      · rw [hb] at q; cases q
    subst e2
    obtain ⟨xs, ds', h1, h2, h3⟩ := r.cell j _ hb
    rw [hc] at h1
    cases h1
    exact ⟨_, xs, rfl, .inl (SqL.of h2), h3⟩
  | t n => cases e
theorem RV.cell {C : Cells} {v : V} {j : Nat} {ds : List PyData} (r : RepC K ms C H) (h : RV K ms H v (.c j)) (e : C[j]? = some (some ds)) : ∃ a xs, v = .ref a ∧ ms[j]? = some (some a) ∧ H a = some (.lst xs) ∧ Ds K (offs ms H) xs ds := by
  obtain ⟨a, rfl, q⟩ := h
  obtain ⟨b, hb⟩ := r.has e
  have e2 : b = a := by
    rcases q with q | q
    · rw [hb] at q; cases q; rfl
    · rw [hb] at q; cases q
  subst e2
  obtain ⟨xs, ds', h1, h2, h3⟩ := r.cell j _ hb
  rw [e] at h1
  cases h1
  exact ⟨_, xs, rfl, hb, h2, h3⟩
/-- the slots -/
structure RS (K : PySem.W.Frag) (ms : Ms) (H : Hp) (σ : L2.St) (env : Env) : Prop where
  len : σ.length = env.length
  slot : ∀ (i : Nat) (av : AV), env[i]? = some (some av) → ∃ v, σ[i]? = some (some v) ∧ RV K ms H v av
theorem RS.ext {σ : L2.St} {env : Env} (h : RS K ms H σ env) (x : Ext ms ms' H H') : RS K ms' H' σ env :=
  ⟨h.len, fun i av e => by
    obtain ⟨v, h1, h2⟩ := h.slot i av e
    exact ⟨v, h1, h2.ext x⟩⟩
theorem RS.set {σ : L2.St} {env : Env} {v : V} {av : AV} (h : RS K ms H σ env) (i : Nat) (r : RV K ms H v av) : RS K ms H (σ.set i (some v)) (env.set i (some av)) := by
  refine ⟨by rw [List.length_set, List.length_set, h.len], fun j aw e => ?_⟩
  by_cases hj : i = j
  · subst hj
    have hi : i < env.length := by
      have z := (List.getElem?_eq_some_iff.mp e).1
      rwa [List.length_set] at z
    rw [List.getElem?_set_self hi] at e
    cases e
    exact ⟨v, List.getElem?_set_self (by rw [h.len]; exact hi), r⟩
  · rw [List.getElem?_set_ne hj] at e ⊢
    exact h.slot j aw e
theorem RS.wipe {σ : L2.St} {env : Env} (h : RS K ms H σ env) (i : Nat) : RS K ms H (σ.set i none) (env.set i none) := by
  refine ⟨by rw [List.length_set, List.length_set, h.len], fun j aw e => ?_⟩
  by_cases hj : i = j
  · subst hj
    have hi : i < env.length := by
      have z := (List.getElem?_eq_some_iff.mp e).1
      rwa [List.length_set] at z
    rw [List.getElem?_set_self hi] at e
    cases e
  · rw [List.getElem?_set_ne hj] at e ⊢
    exact h.slot j aw e
/-- a cell taken as data from here on -/
theorem freeze {C : Cells} {v : V} {j : Nat} {ds : List PyData} (r : RepC K ms C H) (h : RV K ms H v (.c j)) (e : C[j]? = some (some ds)) :
    Ext ms (ms.set j none) H H ∧ RepC K (ms.set j none) (C.set j none) H ∧ RV K (ms.set j none) H v (.d (.list ds)) := by
  obtain ⟨a, xs, rfl, hb, h2, h3⟩ := h.cell r e
  have hlt : j < ms.length := (List.getElem?_eq_some_iff.mp hb).1
  have sub : ∀ b, some b ∈ ms.set j none → some b ∈ ms := fun b hm => by
    rcases List.mem_or_eq_of_mem_set hm with z | z
    · exact z
    · cases z
  have sm : Same (offs ms H) (offs (ms.set j none) H) := offs_less sub
  refine ⟨⟨by rw [List.length_set]; exact Nat.le_refl _, fun i o q => ?_, sm⟩, ⟨by rw [List.length_set, List.length_set, r.len], fun i k b p q => ?_, fun i b q => ?_, fun i q => ?_⟩, ?_⟩
  · by_cases hi : j = i
    · subst hi
      exact .inr (List.getElem?_set_self hlt)
    · rw [List.getElem?_set_ne hi]
      exact .inl q
  · by_cases hi : j = i
    · subst hi
      rw [List.getElem?_set_self hlt] at p
      cases p
    · by_cases hk : j = k
      · subst hk
        rw [List.getElem?_set_self hlt] at q
        cases q
      · rw [List.getElem?_set_ne hi] at p
        rw [List.getElem?_set_ne hk] at q
        exact r.one i k b p q
  · by_cases hi : j = i
    · subst hi
      rw [List.getElem?_set_self hlt] at q
      cases q
    · rw [List.getElem?_set_ne hi] at q
      obtain ⟨ys, es, q1, q2, q3⟩ := r.cell i b q
      exact ⟨ys, es, by rw [List.getElem?_set_ne hi]; exact q1, q2, q3.up sm⟩
  · by_cases hi : j = i
    · subst hi
      exact List.getElem?_set_self (by rw [← r.len]; exact hlt)
    · rw [List.getElem?_set_ne hi] at q ⊢
      exact r.no i q
  · have na : some a ∉ ms.set j none := fun hm => by
      obtain ⟨i, hi⟩ := List.getElem?_of_mem hm
      by_cases hij : j = i
      · subst hij
        rw [List.getElem?_set_self hlt] at hi
        cases hi
      · rw [List.getElem?_set_ne hij] at hi
        exact hij (r.one j i a hb hi)
    exact .lst (SqM.of (by rw [offs_out na]; exact h2)) (h3.up sm)
/-- a new cell -/
theorem fresh {C : Cells} {xs : List V} {ds : List PyData} (r : RepC K ms C H) (n : H a = none) (h : Ds K (offs ms H) xs ds) :
    Ext ms (ms ++ [some a]) H (upd H a (.lst xs)) ∧ RepC K (ms ++ [some a]) (C ++ [some ds]) (upd H a (.lst xs)) ∧ RV K (ms ++ [some a]) (upd H a (.lst xs)) (.ref a) (.c C.length) := by
  have na := r.new n
  have sm : Same (offs ms H) (offs (ms ++ [some a]) (upd H a (.lst xs))) := fun b o e => by
    by_cases hb : some b ∈ ms
    · rw [offs_in hb] at e; cases e
    · rw [offs_out hb] at e
      have ne : b ≠ a := fun z => by rw [z, n] at e; cases e
      rw [offs_out fun z => by
        rcases List.mem_append.mp z with z | z
        · exact hb z
        · exact ne (Option.some.inj (List.mem_singleton.mp z)), upd_ne ne]
      exact e
  have at_end : (ms ++ [some a])[C.length]? = some (some a) := by
    rw [← r.len, List.getElem?_append_right (Nat.le_refl _), Nat.sub_self]
    rfl
  refine ⟨⟨by rw [List.length_append]; omega, fun i o q => .inl ?_, sm⟩, ⟨by rw [List.length_append, List.length_append, r.len]; rfl, fun i k b p q => ?_, fun i b q => ?_, fun i q => ?_⟩, ⟨a, rfl, .inl at_end⟩⟩
  · rw [List.getElem?_append_left (List.getElem?_eq_some_iff.mp q).1]
    exact q
  · have old : ∀ {i : Nat} {b : Addr}, (ms ++ [some a])[i]? = some (some b) → (ms[i]? = some (some b) ∧ b ≠ a) ∨ (i = ms.length ∧ b = a) := by
      intro i b h
      by_cases hi : i < ms.length
      · rw [List.getElem?_append_left hi] at h
        exact .inl ⟨h, fun z => na (z ▸ mem_of_at h)⟩
      · have hi2 : i < (ms ++ [some a]).length := (List.getElem?_eq_some_iff.mp h).1
        rw [List.length_append] at hi2
        have e : i = ms.length := by
          have : [some a].length = 1 := rfl
          omega
        subst e
        rw [List.getElem?_append_right (Nat.le_refl _), Nat.sub_self] at h
        cases h
        exact .inr ⟨rfl, rfl⟩
    rcases old p with ⟨p1, p2⟩ | ⟨p1, p2⟩
    · rcases old q with ⟨q1, q2⟩ | ⟨q1, q2⟩
      · exact r.one i k b p1 q1
      · exact absurd q2 p2
    · rcases old q with ⟨q1, q2⟩ | ⟨q1, q2⟩
      · exact absurd p2 q2
      · rw [p1, q1]
  · by_cases hi : i < ms.length
    · rw [List.getElem?_append_left hi] at q
      obtain ⟨ys, es, q1, q2, q3⟩ := r.cell i b q
      have ne : b ≠ a := fun z => na (z ▸ mem_of_at q)
      exact ⟨ys, es, by rw [List.getElem?_append_left (by rw [← r.len]; exact hi)]; exact q1, by rw [upd_ne ne]; exact q2, q3.up sm⟩
    · have hi2 : i < (ms ++ [some a]).length := (List.getElem?_eq_some_iff.mp q).1
      rw [List.length_append] at hi2
      have e : i = ms.length := by
        have : [some a].length = 1 := rfl
        omega
      subst e
      rw [List.getElem?_append_right (Nat.le_refl _), Nat.sub_self] at q
      cases q
      exact ⟨xs, ds, by rw [r.len, List.getElem?_append_right (Nat.le_refl _), Nat.sub_self]; rfl, upd_same, h.up sm⟩
  · by_cases hi : i < ms.length
    · rw [List.getElem?_append_left hi] at q
      rw [List.getElem?_append_left (by rw [← r.len]; exact hi)]
      exact r.no i q
    · have hi2 : i < (ms ++ [some a]).length := (List.getElem?_eq_some_iff.mp q).1
      rw [List.length_append] at hi2
      have e : i = ms.length := by
        have : [some a].length = 1 := rfl
        omega
      subst e
      rw [List.getElem?_append_right (Nat.le_refl _), Nat.sub_self] at q
      cases q
/-- a cell changed -/
theorem put {C : Cells} {j : Nat} {xs ys : List V} {es : List PyData} (r : RepC K ms C H) (hb : ms[j]? = some (some a)) (hx : H a = some (.lst xs)) (h : Ds K (offs ms H) ys es) :
    Ext ms ms H (upd H a (.lst ys)) ∧ RepC K ms (C.set j (some es)) (upd H a (.lst ys)) := by
  have hlt : j < ms.length := (List.getElem?_eq_some_iff.mp hb).1
  have ina := mem_of_at hb
  have sm : Same (offs ms H) (offs ms (upd H a (.lst ys))) := fun b o e => by
    by_cases hm : some b ∈ ms
    · rw [offs_in hm] at e; cases e
    · have ne : b ≠ a := fun z => hm (z ▸ ina)
      rw [offs_out hm] at e ⊢
      rw [upd_ne ne]
      exact e
  refine ⟨⟨Nat.le_refl _, fun _ _ e => .inl e, sm⟩, ⟨by rw [List.length_set, r.len], r.one, fun i b q => ?_, fun i q => ?_⟩⟩
  · by_cases hi : j = i
    · subst hi
      rw [hb] at q
      cases q
      exact ⟨ys, es, List.getElem?_set_self (by rw [← r.len]; exact hlt), upd_same, h.up sm⟩
    · obtain ⟨zs, fs, q1, q2, q3⟩ := r.cell i b q
      have ne : b ≠ a := fun z => hi (r.one j i a hb (z ▸ q))
      exact ⟨zs, fs, by rw [List.getElem?_set_ne hi]; exact q1, by rw [upd_ne ne]; exact q2, q3.up sm⟩
  · have hi : j ≠ i := fun z => by
      subst z
      rw [hb] at q
      cases q
    rw [List.getElem?_set_ne hi]
    exact r.no i q
/-- the cells made since are let go -/
theorem drop_new {C : Cells} (n : Nat) (r : RepC K ms C H) : RepC K (ms.take n) (C.take n) H ∧ Same (offs ms H) (offs (ms.take n) H) := by
  have sm : Same (offs ms H) (offs (ms.take n) H) := offs_less fun b h => List.mem_of_mem_take h
  have sub : ∀ {α : Type} {l : List α} {i : Nat} {x : α}, (l.take n)[i]? = some x → l[i]? = some x ∧ i < n := by
    intro α l i x h
    have hi := (List.getElem?_eq_some_iff.mp h).1
    rw [List.length_take] at hi
    have hi2 : i < n := by omega
    rw [List.getElem?_take_of_lt hi2] at h
    exact ⟨h, hi2⟩
  refine ⟨⟨by rw [List.length_take, List.length_take, r.len], fun i k b p q => r.one i k b (sub p).1 (sub q).1, fun i b q => ?_, fun i q => ?_⟩, sm⟩
  · obtain ⟨q0, hi⟩ := sub q
    obtain ⟨ys, es, q1, q2, q3⟩ := r.cell i b q0
    exact ⟨ys, es, by rw [List.getElem?_take_of_lt hi]; exact q1, q2, q3.up sm⟩
  · obtain ⟨q0, hi⟩ := sub q
    rw [List.getElem?_take_of_lt hi]
    exact r.no i q0
theorem Ext.drop {n : Nat} (x : Ext ms ms' H H') (hn : n = ms.length) : Ext ms (ms'.take n) H H' := by
  subst hn
  refine ⟨by rw [List.length_take]; have := x.len; omega, fun j o e => ?_, x.same.trans (offs_less fun b h => List.mem_of_mem_take h)⟩
  have hj := (List.getElem?_eq_some_iff.mp e).1
  rw [List.getElem?_take_of_lt hj]
  exact x.st j o e
end
end M
namespace M
open PySem PySem.Spec PyProof.Rows L2 Z
abbrev EM := Env → Cells → Option (AV × Cells)
abbrev TM := Env → Cells → Option (Bool × Cells)
abbrev AM := Env → Cells → Option (List AV × Cells)
abbrev OM := Env → Cells → Option (Option Int × Cells)
abbrev GM := AV → Env → Cells → Option (Env × Cells)
abbrev GsM := List AV → Env → Cells → Option (Env × Cells)
inductive Fl where
  | nx | bk | ct
  | rt (av : AV)
abbrev SM := Env → Cells → Option (Fl × Env × Cells)
def Ev (K : PySem.W.Frag) (te : TE) (m : EM) : Prop := ∀ (ms : Ms) (C : Cells) (σ : L2.St) (env : Env) (H : Hp) (Q : VK) (av : AV) (C' : Cells), RepC K ms C H → RS K ms H σ env → m env C = some (av, C') →
  (∀ v ms' H', Ext ms ms' H H' → RepC K ms' C' H' → RV K ms' H' v av → Q v H') → te σ H Q
def Tv (K : PySem.W.Frag) (tt : TT) (m : TM) : Prop := ∀ (ms : Ms) (C : Cells) (σ : L2.St) (env : Env) (H : Hp) (Q : Bool → Hp → Prop) (b : Bool) (C' : Cells), RepC K ms C H → RS K ms H σ env → m env C = some (b, C') →
  (∀ ms' H', Ext ms ms' H H' → RepC K ms' C' H' → Q b H') → tt σ H Q
def Av (K : PySem.W.Frag) (ta : TA) (m : AM) : Prop := ∀ (ms : Ms) (C : Cells) (σ : L2.St) (env : Env) (H : Hp) (Q : List V → Hp → Prop) (as : List AV) (C' : Cells), RepC K ms C H → RS K ms H σ env → m env C = some (as, C') →
  (∀ vs ms' H', Ext ms ms' H H' → RepC K ms' C' H' → RVs K ms' H' vs as → Q vs H') → ta σ H Q
def Ov (K : PySem.W.Frag) (to : TO) (m : OM) : Prop := ∀ (ms : Ms) (C : Cells) (σ : L2.St) (env : Env) (H : Hp) (Q : Option Int → Hp → Prop) (o : Option Int) (C' : Cells), RepC K ms C H → RS K ms H σ env → m env C = some (o, C') →
  (∀ ms' H', Ext ms ms' H H' → RepC K ms' C' H' → Q o H') → to σ H Q
def Gv (K : PySem.W.Frag) (vs : List Nat) (g : TG) (m : GM) : Prop := ∀ (ms : Ms) (C : Cells) (σ : L2.St) (env : Env) (H : Hp) (Q : L2.St → Hp → Prop) (v : V) (av : AV) (env' : Env) (C' : Cells), RepC K ms C H → RS K ms H σ env → RV K ms H v av → m av env C = some (env', C') →
  (∀ σ' ms' H', Ext ms ms' H H' → RepC K ms' C' H' → RS K ms' H' σ' env' → wipe σ' vs = wipe σ vs → Q σ' H') → g v σ H Q
def Gsv (K : PySem.W.Frag) (ws : List Nat) (g : TGs) (m : GsM) : Prop := ∀ (ms : Ms) (C : Cells) (σ : L2.St) (env : Env) (H : Hp) (Q : L2.St → Hp → Prop) (vs : List V) (as : List AV) (env' : Env) (C' : Cells), RepC K ms C H → RS K ms H σ env → RVs K ms H vs as → m as env C = some (env', C') →
  (∀ σ' ms' H', Ext ms ms' H H' → RepC K ms' C' H' → RS K ms' H' σ' env' → wipe σ' ws = wipe σ ws → Q σ' H') → g vs σ H Q
def PostF (K : PySem.W.Frag) (D : Ends) (fl : Fl) (ms : Ms) (σ : L2.St) (H : Hp) : Prop := match fl with
  | .nx => D.nx σ H
  | .bk => D.bk σ H
  | .ct => D.ct σ H
  | .rt av => ∀ v, RV K ms H v av → D.rt v H
def Sv (K : PySem.W.Frag) (ts : TS) (m : SM) : Prop := ∀ (ms : Ms) (C : Cells) (σ : L2.St) (env : Env) (H : Hp) (D : Ends) (fl : Fl) (env' : Env) (C' : Cells), RepC K ms C H → RS K ms H σ env → m env C = some (fl, env', C') →
  (∀ σ' ms' H', Ext ms ms' H H' → RepC K ms' C' H' → RS K ms' H' σ' env' → PostF K D fl ms' σ' H') → ts D σ H
theorem bnd {α β : Type} {o : Option α} {f : α → Option β} {b : β} (h : o.bind f = some b) : ∃ a, o = some a ∧ f a = some b := Option.bind_eq_some_iff.mp h
section
variable {K : PySem.W.Frag} {ta tb te : TE} {ma mb me : EM} {tt tu : TT} {mt mu : TM} {T : TA} {mA : AM}
def mVar (i : Nat) : EM := fun env C => env[i]?.join.bind fun av => some (av, C)
theorem ev_var (i : Nat) : Ev K (tVar i) (mVar i) := by
  intro ms C σ env H Q av C' r s h q
  obtain ⟨a, h1, h2⟩ := bnd h
  cases h2
  obtain ⟨v, e, rv⟩ := s.slot i _ (join_some h1)
  exact ⟨v, e, q v ms H .refl r rv⟩
def mC (x : PyData) : EM := fun _ C => some (.d x, C)
theorem ev_c {v : V} {x : PyData} (h : ∀ H, Dd K H v x) : Ev K (tC v) (mC x) := by
  intro ms C σ env H Q av C' r s e q
  cases e
  exact q v ms H .refl r (h _)
theorem ev_int {i : Int} : Ev K (tC (.int i)) (mC (.int i)) := ev_c fun _ => .int i
theorem ev_str {i : Str} : Ev K (tC (.str i)) (mC (.str i)) := ev_c fun _ => .str i
theorem ev_bl {i : Bool} : Ev K (tC (.bl i)) (mC (.bool i)) := ev_c fun _ => .bl i
def mTy (n : String) : EM := fun _ C => some (.t n, C)
theorem ev_ty {n : String} : Ev K (tC (.ty n)) (mTy n) := by
  intro ms C σ env H Q av C' r s e q
  cases e
  exact q _ ms H .refl r rfl
def R2v (K : PySem.W.Frag) (r : R2) (p : Cells → AV → AV → Option PyData) : Prop := ∀ (ms : Ms) (C : Cells) (H : Hp) (x y : V) (a b : AV) (z : PyData) (Q : VK), RepC K ms C H → RV K ms H x a → RV K ms H y b → p C a b = some z → (∀ v H', Same H H' → Dd K (offs ms H') v z → Q v H') → r x y H Q
def R1v (K : PySem.W.Frag) (r : V → Hp → VK → Prop) (p : Cells → AV → Option PyData) : Prop := ∀ (ms : Ms) (C : Cells) (H : Hp) (x : V) (a : AV) (z : PyData) (Q : VK), RepC K ms C H → RV K ms H x a → p C a = some z → (∀ v H', Same H H' → Dd K (offs ms H') v z → Q v H') → r x H Q
def Rnv (K : PySem.W.Frag) (r : List V → Hp → VK → Prop) (p : Cells → List AV → Option PyData) : Prop := ∀ (ms : Ms) (C : Cells) (H : Hp) (xs : List V) (as : List AV) (z : PyData) (Q : VK), RepC K ms C H → RVs K ms H xs as → p C as = some z → (∀ v H', Same H H' → Dd K (offs ms H') v z → Q v H') → r xs H Q
def mOp (p : Cells → AV → AV → Option PyData) (ma mb : EM) : EM := fun env C => (ma env C).bind fun r => (mb env r.2).bind fun s => (p s.2 r.1 s.1).bind fun z => some (.d z, s.2)
theorem ev_op {r : R2} {p : Cells → AV → AV → Option PyData} (hr : R2v K r p) (ha : Ev K ta ma) (hb : Ev K tb mb) : Ev K (tOp r ta tb) (mOp p ma mb) := by
  intro ms C σ env H Q av C' rc rs h q
  obtain ⟨⟨a, C1⟩, h1, h⟩ := bnd h
  obtain ⟨⟨b, C2⟩, h2, h⟩ := bnd h
  obtain ⟨z, h3, h⟩ := bnd h
  cases h
  refine ha ms C σ env H _ a C1 rc rs h1 fun x ms1 H1 x1 rc1 rv1 => ?_
  refine hb ms1 C1 σ env H1 _ b _ rc1 (rs.ext x1) h2 fun y ms2 H2 x2 rc2 rv2 => ?_
  exact hr ms2 _ H2 x y a b z Q rc2 (rv1.ext x2) rv2 h3 fun v H3 s3 d => q v ms2 H3 ((x1.trans x2).trans (.of s3)) (rc2.up s3) d
def mUn (p : Cells → AV → Option PyData) (ma : EM) : EM := fun env C => (ma env C).bind fun r => (p r.2 r.1).bind fun z => some (.d z, r.2)
theorem ev_un {r : V → Hp → VK → Prop} {p : Cells → AV → Option PyData} (hr : R1v K r p) (ha : Ev K ta ma) : Ev K (tUn r ta) (mUn p ma) := by
  intro ms C σ env H Q av C' rc rs h q
  obtain ⟨⟨a, C1⟩, h1, h⟩ := bnd h
  obtain ⟨z, h3, h⟩ := bnd h
  cases h
  refine ha ms C σ env H _ a _ rc rs h1 fun x ms1 H1 x1 rc1 rv1 => ?_
  exact hr ms1 _ H1 x a z Q rc1 rv1 h3 fun v H3 s3 d => q v ms1 H3 (x1.trans (.of s3)) (rc1.up s3) d
def aNil : AM := fun _ C => some ([], C)
def aCons (me : EM) (mA : AM) : AM := fun env C => (me env C).bind fun r => (mA env r.2).bind fun s => some (r.1 :: s.1, s.2)
theorem av_nil : Av K tNil aNil := by
  intro ms C σ env H Q as C' rc rs h q
  cases h
  exact q [] ms H .refl rc .nil
theorem av_cons (he : Ev K te me) (hA : Av K T mA) : Av K (tCons te T) (aCons me mA) := by
  intro ms C σ env H Q as C' rc rs h q
  obtain ⟨⟨a, C1⟩, h1, h⟩ := bnd h
  obtain ⟨⟨as1, C2⟩, h2, h⟩ := bnd h
  cases h
  refine he ms C σ env H _ a C1 rc rs h1 fun x ms1 H1 x1 rc1 rv1 => ?_
  exact hA ms1 C1 σ env H1 _ as1 _ rc1 (rs.ext x1) h2 fun vs ms2 H2 x2 rc2 rv2 => q _ ms2 H2 (x1.trans x2) rc2 (.cons (rv1.ext x2) rv2)
def mCB (p : Cells → List AV → Option PyData) (mA : AM) : EM := fun env C => (mA env C).bind fun r => (p r.2 r.1).bind fun z => some (.d z, r.2)
theorem ev_cb {r : List V → Hp → VK → Prop} {p : Cells → List AV → Option PyData} (hr : Rnv K r p) (hA : Av K T mA) : Ev K (tCB r T) (mCB p mA) := by
  intro ms C σ env H Q av C' rc rs h q
  obtain ⟨⟨a, C1⟩, h1, h⟩ := bnd h
  obtain ⟨z, h3, h⟩ := bnd h
  cases h
  refine hA ms C σ env H _ a _ rc rs h1 fun x ms1 H1 x1 rc1 rv1 => ?_
  exact hr ms1 _ H1 x a z Q rc1 rv1 h3 fun v H3 s3 d => q v ms1 H3 (x1.trans (.of s3)) (rc1.up s3) d
abbrev FM := List AV → Cells → Option (AV × Cells)
def spM (K : PySem.W.Frag) (np : Nat) (m : FM) : Sp := fun vs H Q _ => vs.length = np ∧ ∃ (ms : Ms) (C : Cells) (as : List AV) (av : AV) (C' : Cells), RepC K ms C H ∧ RVs K ms H vs as ∧ m as C = some (av, C') ∧
  ∀ v ms' H', Ext ms ms' H H' → RepC K ms' C' H' → RV K ms' H' v av → Q v H'
def mCall (np : Nat) (f : FM) (mA : AM) : EM := fun env C => (mA env C).bind fun r => if r.1.length = np then f r.1 r.2 else none
theorem ev_call {np : Nat} {f : FM} {E : XK} (hA : Av K T mA) : Ev K (tCall (spM K np f) [] E T) (mCall np f mA) := by
  intro ms C σ env H Q av C' rc rs h q
  obtain ⟨⟨as, C1⟩, h1, h⟩ := bnd h
  refine hA ms C σ env H _ as C1 rc rs h1 fun vs ms1 H1 x1 rc1 rv1 => ?_
  by_cases hl : as.length = np
  · rw [if_pos hl] at h
    refine ⟨by rw [List.append_nil, rv1.length, hl], ms1, C1, as, av, C', rc1, by rw [List.append_nil]; exact rv1, h, fun v ms2 H2 x2 rc2 rv2 => q v ms2 H2 (x1.trans x2) rc2 rv2⟩
  · rw [if_neg hl] at h
    cases h
def allD : List AV → Option (List PyData)
  | [] => some []
  | .d x :: as => (allD as).bind fun xs => some (x :: xs)
  | _ => none
theorem RVs.all {ms : Ms} {H : Hp} : ∀ {vs : List V} {as : List AV} {ds : List PyData}, RVs K ms H vs as → allD as = some ds → Ds K (offs ms H) vs ds
  | _, _, _, .nil, h => by cases h; exact .nil
  | _, _, _, .cons (a := .d x) h r, e => by
    obtain ⟨xs, h1, h2⟩ := bnd (show (allD _).bind _ = _ from e)
    cases h2
    exact .cons h (r.all h1)
  | _, _, _, .cons (a := .c j) h r, e => by cases e
  | _, _, _, .cons (a := .t j) h r, e => by cases e
def lim (ds : List PyData) : Option (List PyData) := if ds.length ≤ 1000 then some ds else none
theorem lim_some {ds es : List PyData} (h : lim ds = some es) : es = ds ∧ ds.length ≤ 1000 := by
  unfold lim at h
  split at h
  · cases h; exact ⟨rfl, by assumption⟩
  · cases h
def mTup (mA : AM) : EM := fun env C => (mA env C).bind fun r => (allD r.1).bind fun ds => (lim ds).bind fun ds => some (.d (.tuple ds), r.2)
theorem made_ms {ms : Ms} {C : Cells} {H : Hp} {t : Addr} {xs : List V} {ds : List PyData} (rc : RepC K ms C H) (n : H t = none) (h : Ds K (offs ms H) xs ds) : Dd K (offs ms (upd H t (.tup xs))) (.ref t) (.tuple ds) :=
  .tup (SqT.of (by rw [offs_out (rc.new n)]; exact upd_same)) (h.up (same_offs (new_same _ n)))
theorem made_msL {ms : Ms} {C : Cells} {H : Hp} {t : Addr} {xs : List V} {ds : List PyData} (rc : RepC K ms C H) (n : H t = none) (h : Ds K (offs ms H) xs ds) : Dd K (offs ms (upd H t (.lst xs))) (.ref t) (.list ds) :=
  .lst (SqM.of (by rw [offs_out (rc.new n)]; exact upd_same)) (h.up (same_offs (new_same _ n)))
theorem ev_tup (hA : Av K T mA) : Ev K (tTup T) (mTup mA) := by
  intro ms C σ env H Q av C' rc rs h q
  obtain ⟨⟨as, C1⟩, h1, h⟩ := bnd h
  obtain ⟨ds, h2, h⟩ := bnd h
  obtain ⟨ds', h3, h⟩ := bnd h
  cases h
  obtain ⟨rfl, hl⟩ := lim_some h3
  refine hA ms C σ env H _ as _ rc rs h1 fun vs ms1 H1 x1 rc1 rv1 => ?_
  have dd := rv1.all h2
  exact ⟨by rw [dd.length]; exact Nat.le_of_lt (small1000 hl), fun t ht => q _ ms1 _ (x1.trans (.of (new_same _ ht))) (rc1.up (new_same _ ht)) (made_ms rc1 ht dd)⟩
def mLst (mA : AM) : EM := fun env C => (mA env C).bind fun r => (allD r.1).bind fun ds => (lim ds).bind fun ds => some (.d (.list ds), r.2)
theorem ev_lst (hA : Av K T mA) : Ev K (tLst T) (mLst mA) := by
  intro ms C σ env H Q av C' rc rs h q
  obtain ⟨⟨as, C1⟩, h1, h⟩ := bnd h
  obtain ⟨ds, h2, h⟩ := bnd h
  obtain ⟨ds', h3, h⟩ := bnd h
  cases h
  obtain ⟨rfl, hl⟩ := lim_some h3
  refine hA ms C σ env H _ as _ rc rs h1 fun vs ms1 H1 x1 rc1 rv1 => ?_
  have dd := rv1.all h2
  exact ⟨by rw [dd.length]; exact Nat.le_of_lt (small1000 hl), fun t ht => q _ ms1 _ (x1.trans (.of (new_same _ ht))) (rc1.up (new_same _ ht)) (made_msL rc1 ht dd)⟩
/-- a list that will change -/
def mLstC (mA : AM) : EM := fun env C => (mA env C).bind fun r => (allD r.1).bind fun ds => (lim ds).bind fun ds => some (.c r.2.length, r.2 ++ [some ds])
theorem ev_lstC (hA : Av K T mA) : Ev K (tLst T) (mLstC mA) := by
  intro ms C σ env H Q av C' rc rs h q
  obtain ⟨⟨as, C1⟩, h1, h⟩ := bnd h
  obtain ⟨ds, h2, h⟩ := bnd h
  obtain ⟨ds', h3, h⟩ := bnd h
  cases h
  obtain ⟨rfl, hl⟩ := lim_some h3
  refine hA ms C σ env H _ as _ rc rs h1 fun vs ms1 H1 x1 rc1 rv1 => ?_
  have dd := rv1.all h2
  refine ⟨by rw [dd.length]; exact Nat.le_of_lt (small1000 hl), fun t ht => ?_⟩
  obtain ⟨e1, e2, e3⟩ := fresh rc1 ht dd
  exact q _ _ _ (x1.trans e1) e2 e3
/-- from here on it stays -/
def mFrz (me : EM) : EM := fun env C => (me env C).bind fun r => match r.1 with
  | .c j => r.2[j]?.join.bind fun ds => some (.d (.list ds), r.2.set j none)
  | a => some (a, r.2)
theorem ev_frz (he : Ev K te me) : Ev K te (mFrz me) := by
  intro ms C σ env H Q av C' rc rs h q
  obtain ⟨⟨a, C1⟩, h1, h⟩ := bnd h
  refine he ms C σ env H _ a C1 rc rs h1 fun x ms1 H1 x1 rc1 rv1 => ?_
  cases a with
  | c j =>
    obtain ⟨ds, h2, h⟩ := bnd h
    cases h
    obtain ⟨e1, e2, e3⟩ := freeze rc1 rv1 (join_some h2)
    exact q _ _ _ (x1.trans e1) e2 e3
  | d y => cases h; exact q _ _ _ x1 rc1 rv1
  | t y => cases h; exact q _ _ _ x1 rc1 rv1
def asB : AV → Option Bool
  | .d (.bool b) => some b
  | _ => none
theorem asB_some {ms : Ms} {H : Hp} {v : V} {av : AV} {b : Bool} (h : RV K ms H v av) (e : asB av = some b) : v = .bl b := by
  cases av with
  | d x =>
    cases x with
    | bool c => cases e; exact Dd.isBl h
    | _ => cases e
  | _ => cases e
def mAndV (ma mb : EM) : EM := fun env C => (ma env C).bind fun r => (asB r.1).bind fun b => if b = true then mb env r.2 else some (.d (.bool false), r.2)
def mOrV (ma mb : EM) : EM := fun env C => (ma env C).bind fun r => (asB r.1).bind fun b => if b = true then some (.d (.bool true), r.2) else mb env r.2
def mNotV (ma : EM) : EM := fun env C => (ma env C).bind fun r => (asB r.1).bind fun b => some (.d (.bool (!b)), r.2)
theorem ev_and (ha : Ev K ta ma) (hb : Ev K tb mb) : Ev K (tAndV ta tb) (mAndV ma mb) := by
  intro ms C σ env H Q av C' rc rs h q
  obtain ⟨⟨a, C1⟩, h1, h⟩ := bnd h
  obtain ⟨b, h2, h⟩ := bnd h
  refine ha ms C σ env H _ a C1 rc rs h1 fun x ms1 H1 x1 rc1 rv1 => ⟨b, asB_some rv1 h2, ?_⟩
  cases b with
  | true => exact r_it (hb ms1 C1 σ env H1 _ av C' rc1 (rs.ext x1) h fun y ms2 H2 x2 rc2 rv2 => q y ms2 H2 (x1.trans x2) rc2 rv2)
  | false =>
    cases h
    exact r_if0 (q _ ms1 H1 x1 rc1 (.bl false))
theorem ev_or (ha : Ev K ta ma) (hb : Ev K tb mb) : Ev K (tOrV ta tb) (mOrV ma mb) := by
  intro ms C σ env H Q av C' rc rs h q
  obtain ⟨⟨a, C1⟩, h1, h⟩ := bnd h
  obtain ⟨b, h2, h⟩ := bnd h
  refine ha ms C σ env H _ a C1 rc rs h1 fun x ms1 H1 x1 rc1 rv1 => ⟨b, asB_some rv1 h2, ?_⟩
  cases b with
  | false => exact r_if0 (hb ms1 C1 σ env H1 _ av C' rc1 (rs.ext x1) h fun y ms2 H2 x2 rc2 rv2 => q y ms2 H2 (x1.trans x2) rc2 rv2)
  | true =>
    cases h
    exact r_it (q _ ms1 H1 x1 rc1 (.bl true))
theorem ev_not (ha : Ev K ta ma) : Ev K (tNotV ta) (mNotV ma) := by
  intro ms C σ env H Q av C' rc rs h q
  obtain ⟨⟨a, C1⟩, h1, h⟩ := bnd h
  obtain ⟨b, h2, h⟩ := bnd h
  cases h
  exact ha ms C σ env H _ a _ rc rs h1 fun x ms1 H1 x1 rc1 rv1 => ⟨b, asB_some rv1 h2, q _ ms1 H1 x1 rc1 (.bl _)⟩
def mTest (ma : EM) : TM := fun env C => (ma env C).bind fun r => (asB r.1).bind fun b => some (b, r.2)
theorem tv_test (ha : Ev K ta ma) : Tv K (tTest ta) (mTest ma) := by
  intro ms C σ env H Q b C' rc rs h q
  obtain ⟨⟨a, C1⟩, h1, h⟩ := bnd h
  obtain ⟨b, h2, h⟩ := bnd h
  cases h
  exact ha ms C σ env H _ a _ rc rs h1 fun x ms1 H1 x1 rc1 rv1 => ⟨b, asB_some rv1 h2, q ms1 H1 x1 rc1⟩
theorem tv_val (ha : Ev K ta ma) : Tv K (tB ta) (mTest ma) := tv_test ha
def mAnd (mt mu : TM) : TM := fun env C => (mt env C).bind fun r => if r.1 = true then mu env r.2 else some (false, r.2)
def mOr (mt mu : TM) : TM := fun env C => (mt env C).bind fun r => if r.1 = true then some (true, r.2) else mu env r.2
def mNot (mt : TM) : TM := fun env C => (mt env C).bind fun r => some (!r.1, r.2)
theorem tv_and (ha : Tv K tt mt) (hb : Tv K tu mu) : Tv K (tAnd tt tu) (mAnd mt mu) := by
  intro ms C σ env H Q b C' rc rs h q
  obtain ⟨⟨a, C1⟩, h1, h⟩ := bnd h
  refine ha ms C σ env H _ a C1 rc rs h1 fun ms1 H1 x1 rc1 => ?_
  cases a with
  | true => exact r_it (hb ms1 C1 σ env H1 _ b C' rc1 (rs.ext x1) h fun ms2 H2 x2 rc2 => q ms2 H2 (x1.trans x2) rc2)
  | false => cases h; exact r_if0 (q ms1 H1 x1 rc1)
theorem tv_or (ha : Tv K tt mt) (hb : Tv K tu mu) : Tv K (tOr tt tu) (mOr mt mu) := by
  intro ms C σ env H Q b C' rc rs h q
  obtain ⟨⟨a, C1⟩, h1, h⟩ := bnd h
  refine ha ms C σ env H _ a C1 rc rs h1 fun ms1 H1 x1 rc1 => ?_
  cases a with
  | false => exact r_if0 (hb ms1 C1 σ env H1 _ b C' rc1 (rs.ext x1) h fun ms2 H2 x2 rc2 => q ms2 H2 (x1.trans x2) rc2)
  | true => cases h; exact r_it (q ms1 H1 x1 rc1)
theorem tv_not (ha : Tv K tt mt) : Tv K (tNot tt) (mNot mt) := by
  intro ms C σ env H Q b C' rc rs h q
  obtain ⟨⟨a, C1⟩, h1, h⟩ := bnd h
  cases h
  exact ha ms C σ env H _ a _ rc rs h1 fun ms1 H1 x1 rc1 => q ms1 H1 x1 rc1
def mIf (mt : TM) (ma mb : EM) : EM := fun env C => (mt env C).bind fun r => if r.1 = true then ma env r.2 else mb env r.2
theorem ev_if (ht : Tv K tt mt) (ha : Ev K ta ma) (hb : Ev K tb mb) : Ev K (tIf tt ta tb) (mIf mt ma mb) := by
  intro ms C σ env H Q av C' rc rs h q
  obtain ⟨⟨a, C1⟩, h1, h⟩ := bnd h
  refine ht ms C σ env H _ a C1 rc rs h1 fun ms1 H1 x1 rc1 => ?_
  cases a with
  | true => exact r_it (ha ms1 C1 σ env H1 _ av C' rc1 (rs.ext x1) h fun y ms2 H2 x2 rc2 rv2 => q y ms2 H2 (x1.trans x2) rc2 rv2)
  | false => exact r_if0 (hb ms1 C1 σ env H1 _ av C' rc1 (rs.ext x1) h fun y ms2 H2 x2 rc2 rv2 => q y ms2 H2 (x1.trans x2) rc2 rv2)
/-- truth of any value -/
def truD (C : Cells) : AV → Option Bool
  | .d .none => some false
  | .d (.bool b) => some b
  | .d (.int i) => some (i != 0)
  | .d (.str s) => if s.length ≤ 1000 then some ((s.length : Int) != 0) else none
  | .d (.tuple ds) => some (!ds.isEmpty)
  | .d (.list ds) => some (!ds.isEmpty)
  | .c j => C[j]?.join.map fun ds => !ds.isEmpty
  | _ => none
theorem ds_empty {H : Hp} {xs : List V} {ds : List PyData} (h : Ds K H xs ds) : (!xs.isEmpty) = !ds.isEmpty := by cases h <;> rfl
theorem tru_ok {ms : Ms} {C : Cells} {H : Hp} {v : V} {av : AV} {b : Bool} (rc : RepC K ms C H) (h : RV K ms H v av) (e : truD C av = some b) : TruV K v H b := by
  cases av with
  | d x =>
    have h : Dd K (offs ms H) v x := h
    cases x with
    | none => cases h; cases e; rfl
    | bool c => cases h; cases e; rfl
    | int i => cases h; cases e; rfl
    | str s =>
      cases h
      have e : (if s.length ≤ 1000 then some ((s.length : Int) != 0) else none) = some b := e
      by_cases hs : s.length ≤ 1000
      · rw [if_pos hs] at e
        cases e
        exact ⟨Nat.le_of_lt (small1000 hs), rfl⟩
      · rw [if_neg hs] at e
        cases e
    | tuple ds =>
      cases e
      obtain ⟨a, xs, rfl, hx, rx⟩ := Dd.seqT h
      exact .inr (.inl ⟨xs, sameT offs_same hx, (ds_empty rx).symm⟩)
    | list ds =>
      cases e
      cases h with
      | lst hs ha => exact .inl ⟨_, offs_same.seq hs.seq, (ds_empty ha).symm⟩
    | dict _ => cases e
  | c j =>
    obtain ⟨ds, h1, rfl⟩ := Option.map_eq_some_iff.mp (show C[j]?.join.map _ = some b from e)
    obtain ⟨a, xs, rfl, h2, h3, h4⟩ := h.cell rc (join_some h1)
    exact .inl ⟨xs, SqL.of h3, (ds_empty h4).symm⟩
  | t n => cases e
def mTru (ma : EM) : TM := fun env C => (ma env C).bind fun r => (truD r.2 r.1).bind fun b => some (b, r.2)
theorem tv_tru (ha : Ev K ta ma) : Tv K (fun σ H Q => ta σ H fun x H' => ∃ k, TruV K x H' k ∧ Q k H') (mTru ma) := by
  intro ms C σ env H Q b C' rc rs h q
  obtain ⟨⟨a, C1⟩, h1, h⟩ := bnd h
  obtain ⟨b, h2, h⟩ := bnd h
  cases h
  exact ha ms C σ env H _ a _ rc rs h1 fun x ms1 H1 x1 rc1 rv1 => ⟨b, tru_ok rc1 rv1 h2, q ms1 H1 x1 rc1⟩
def oNone : OM := fun _ C => some (none, C)
def oSome (ma : EM) : OM := fun env C => (ma env C).bind fun r => match r.1 with
  | .d (.int i) => some (some i, r.2)
  | _ => none
theorem ov_none : Ov K tNoPart oNone := by
  intro ms C σ env H Q o C' rc rs h q
  cases h
  exact q ms H .refl rc
theorem ov_some (ha : Ev K ta ma) : Ov K (tPart ta) (oSome ma) := by
  intro ms C σ env H Q o C' rc rs h q
  obtain ⟨⟨a, C1⟩, h1, h⟩ := bnd h
  refine ha ms C σ env H _ a C1 rc rs h1 fun x ms1 H1 x1 rc1 rv1 => ?_
  match a, h with
  | .d (.int i), h =>
    cases h
    exact ⟨i, Dd.isInt rv1, q ms1 H1 x1 rc1⟩
def Rsv (K : PySem.W.Frag) (r : V → Option Int → Option Int → Hp → VK → Prop) (p : Cells → AV → Option Int → Option Int → Option PyData) : Prop := ∀ (ms : Ms) (C : Cells) (H : Hp) (x : V) (a : AV) (lo hi : Option Int) (z : PyData) (Q : VK), RepC K ms C H → RV K ms H x a → p C a lo hi = some z → (∀ v H', Same H H' → Dd K (offs ms H') v z → Q v H') → r x lo hi H Q
def mSl (p : Cells → AV → Option Int → Option Int → Option PyData) (me : EM) (ml mh : OM) : EM := fun env C => (me env C).bind fun r => (ml env r.2).bind fun l => (mh env l.2).bind fun u => (p u.2 r.1 l.1 u.1).bind fun z => some (.d z, u.2)
theorem ev_sl {r : V → Option Int → Option Int → Hp → VK → Prop} {p : Cells → AV → Option Int → Option Int → Option PyData} {tl th : TO} {ml mh : OM} (hr : Rsv K r p) (he : Ev K te me) (hl : Ov K tl ml) (hh : Ov K th mh) : Ev K (tSl r te tl th) (mSl p me ml mh) := by
  intro ms C σ env H Q av C' rc rs h q
  obtain ⟨⟨a, C1⟩, h1, h⟩ := bnd h
  obtain ⟨⟨l, C2⟩, h2, h⟩ := bnd h
  obtain ⟨⟨u, C3⟩, h3, h⟩ := bnd h
  obtain ⟨z, h4, h⟩ := bnd h
  cases h
  refine he ms C σ env H _ a C1 rc rs h1 fun x ms1 H1 x1 rc1 rv1 => ?_
  refine hl ms1 C1 σ env H1 _ l C2 rc1 (rs.ext x1) h2 fun ms2 H2 x2 rc2 => ?_
  refine hh ms2 C2 σ env H2 _ u _ rc2 (rs.ext (x1.trans x2)) h3 fun ms3 H3 x3 rc3 => ?_
  exact hr ms3 _ H3 x a l u z Q rc3 ((rv1.ext x2).ext x3) h4 fun v H4 s4 d => q v ms3 H4 (((x1.trans x2).trans x3).trans (.of s4)) (rc3.up s4) d
end
end M
namespace M
open PySem PySem.Spec PyProof.Rows L2 Z
section
variable {K : PySem.W.Frag}
theorem wipe_at {σ : L2.St} {vs : List Nat} {k : Nat} : (wipe σ vs)[k]? = if k ∈ vs then (σ[k]?).map (fun _ => none) else σ[k]? := by
  induction vs with
  | nil => rw [wipe, if_neg List.not_mem_nil]
  | cons v vs ih =>
    rw [wipe]
    by_cases hv : v = k
    · subst hv
      rw [if_pos List.mem_cons_self]
      by_cases hl : v < σ.length
      · rw [List.getElem?_set_self (by rw [wipe_length]; exact hl), List.getElem?_eq_getElem hl]
        rfl
      · rw [List.getElem?_eq_none (by rw [List.length_set, wipe_length]; omega), List.getElem?_eq_none (by omega)]
        rfl
    · rw [List.getElem?_set_ne hv, ih]
      by_cases hk : k ∈ vs
      · rw [if_pos hk, if_pos (List.mem_cons_of_mem _ hk)]
      · rw [if_neg hk, if_neg fun z => by
          rcases List.mem_cons.mp z with z | z
          · exact hv z.symm
          · exact hk z]
theorem wipe_set {σ : L2.St} {vs : List Nat} {i : Nat} {x : Option V} (h : i ∈ vs) : wipe (σ.set i x) vs = wipe σ vs := by
  apply List.ext_getElem?
  intro k
  rw [wipe_at, wipe_at]
  by_cases hk : k ∈ vs
  · rw [if_pos hk, if_pos hk]
    by_cases hi : i = k
    · subst hi
      by_cases hl : i < σ.length
      · rw [List.getElem?_set_self hl, List.getElem?_eq_getElem hl]
        rfl
      · rw [List.getElem?_eq_none (by rw [List.length_set]; omega), List.getElem?_eq_none (by omega)]
    · rw [List.getElem?_set_ne hi]
  · rw [if_neg hk, if_neg hk, List.getElem?_set_ne (fun z : i = k => hk (by rw [← z]; exact h))]
theorem wipe_wipe {σ : L2.St} {vs : List Nat} : wipe (wipe σ vs) vs = wipe σ vs := by
  apply List.ext_getElem?
  intro k
  rw [wipe_at, wipe_at]
  by_cases hk : k ∈ vs
  · rw [if_pos hk, if_pos hk]
    cases σ[k]? <;> rfl
  · rw [if_neg hk, if_neg hk]
def wipeE (env : Env) : List Nat → Env
  | [] => env
  | v :: vs => (wipeE env vs).set v none
theorem RS.wipes {ms : Ms} {H : Hp} {σ : L2.St} {env : Env} (h : RS K ms H σ env) : ∀ vs : List Nat, RS K ms H (L2.wipe σ vs) (wipeE env vs)
  | [] => h
  | v :: vs => (RS.wipes h vs).wipe v
def gmName (i : Nat) : GM := fun av env C => some (env.set i (some av), C)
theorem gv_name {i : Nat} {vs : List Nat} (h : i ∈ vs) : Gv K vs (gName i) (gmName i) := by
  intro ms C σ env H Q v av env' C' rc rs rv e q
  cases e
  exact q _ ms H .refl rc (rs.set i rv) (wipe_set h)
def gmNil : GsM := fun as env C => match as with
  | [] => some (env, C)
  | _ => none
theorem gsv_nil {vs : List Nat} : Gsv K vs gNil gmNil := by
  intro ms C σ env H Q v as env' C' rc rs rv e q
  cases as with
  | nil => cases e; cases rv; exact ⟨rfl, q _ ms H .refl rc rs rfl⟩
  | cons a as => cases e
def gmCons (g : GM) (gs : GsM) : GsM := fun as env C => match as with
  | [] => none
  | a :: as => (g a env C).bind fun r => gs as r.1 r.2
theorem gsv_cons {ws : List Nat} {g : TG} {m : GM} {gs : TGs} {mm : GsM} (h : Gv K ws g m) (hs : Gsv K ws gs mm) : Gsv K ws (gCons g gs) (gmCons m mm) := by
  intro ms C σ env H Q vs as env' C' rc rs rv e q
  cases rv with
  | nil => cases e
  | cons h1 h2 =>
    obtain ⟨⟨env1, C1⟩, e1, e⟩ := bnd e
    refine ⟨_, _, rfl, h ms C σ env H _ _ _ env1 C1 rc rs h1 e1 fun σ1 ms1 H1 x1 rc1 rs1 w1 => ?_⟩
    exact hs ms1 C1 σ1 env1 H1 Q _ _ env' C' rc1 rs1 (h2.ext x1) e fun σ2 ms2 H2 x2 rc2 rs2 w2 => q σ2 ms2 H2 (x1.trans x2) rc2 rs2 (w2.trans w1)
def gmTup (n : Nat) (gs : GsM) : GM := fun av env C => match av with
  | .d (.tuple ds) => if ds.length = n then gs (ds.map AV.d) env C else none
  | _ => none
theorem rvs_of {ms : Ms} {H : Hp} : ∀ {xs : List V} {ds : List PyData}, Ds K (offs ms H) xs ds → RVs K ms H xs (ds.map AV.d)
  | _, _, .nil => .nil
  | _, _, .cons h r => .cons h (rvs_of r)
theorem gv_tup {ws : List Nat} {n : Nat} {gs : TGs} {mm : GsM} (hs : Gsv K ws gs mm) : Gv K ws (gTup K n gs) (gmTup n mm) := by
  intro ms C σ env H Q v av env' C' rc rs rv e q
  match av, e, rv with
  | .d (.tuple ds), e, rv =>
    obtain ⟨a, xs, rfl, hx, rx⟩ := Dd.seqT rv
    have e : (if ds.length = n then mm (ds.map AV.d) env C else none) = some (env', C') := e
    by_cases hl : ds.length = n
    · rw [if_pos hl] at e
      exact ⟨a, xs, rfl, sameT offs_same hx, by rw [rx.length, hl], hs ms C σ env H Q xs _ env' C' rc rs (rvs_of rx) e q⟩
    · rw [if_neg hl] at e
      cases e
/-- xs[i] = v of a cell -/
def setC (o i v : AV) (C : Cells) : Option Cells := match o, i, v with
  | .c j, .d (.int k), .d z => C[j]?.join.bind fun ds => (ixN ds.length k).bind fun m => some (C.set j (some (ds.set m z)))
  | _, _, _ => none
theorem Ds.put {ms : Ms} {H : Hp} {v : V} {d : PyData} : ∀ {xs : List V} {ds : List PyData} (m : Nat), Ds K (offs ms H) xs ds → Dd K (offs ms H) v d → Ds K (offs ms H) (xs.set m v) (ds.set m d)
  | _, _, _, .nil, _ => .nil
  | _, _, 0, .cons h r, z => .cons z r
  | _, _, m + 1, .cons h r, z => .cons h (Ds.put m r z)
def gmSub (mo mi : EM) : GM := fun av env C => (mo env C).bind fun o => (mi env o.2).bind fun i => (setC o.1 i.1 av i.2).bind fun C' => some (env, C')
theorem gv_sub {ws : List Nat} {to ti : TE} {mo mi : EM} (ho : Ev K to mo) (hi : Ev K ti mi) : Gv K ws (gSub to ti rSetL) (gmSub mo mi) := by
  intro ms C σ env H Q v av env' C' rc rs rv e q
  obtain ⟨⟨o, C1⟩, e1, e⟩ := bnd e
  obtain ⟨⟨i, C2⟩, e2, e⟩ := bnd e
  obtain ⟨C3, e3, e⟩ := bnd e
  cases e
  refine ho ms C σ env H _ o C1 rc rs e1 fun x ms1 H1 x1 rc1 rv1 => ?_
  refine hi ms1 C1 σ env H1 _ i C2 rc1 (rs.ext x1) e2 fun y ms2 H2 x2 rc2 rv2 => ?_
  match o, i, av, e3, rv1, rv2, rv with
  | .c j, .d (.int k), .d z, e3, rv1, rv2, rv =>
    obtain ⟨ds, h1, e3⟩ := bnd e3
    obtain ⟨m, h2, e3⟩ := bnd e3
    cases e3
    obtain ⟨a, xs, rfl, hb, hx, hd⟩ := (rv1.ext x2).cell rc2 (join_some h1)
    cases Dd.isInt rv2
    have rv' : Dd K (offs ms2 H2) v z := rv.ext (x1.trans x2)
    obtain ⟨p1, p2⟩ := put rc2 hb hx (Ds.put m hd rv')
    exact ⟨a, xs, k, m, rfl, rfl, hx, by rw [hd.length]; exact h2, q σ ms2 _ ((x1.trans x2).trans p1) p2 (rs.ext ((x1.trans x2).trans p1)) rfl⟩
variable {ta te : TE} {ma me : EM} {tt : TT} {mt : TM} {t u : TS} {m n : SM} {g : TG} {mg : GM} {T : TA} {mA : AM}
def sNext : SM := fun env C => some (.nx, env, C)
theorem sv_next : Sv K tNext sNext := by
  intro ms C σ env H D fl env' C' rc rs e q
  cases e
  exact q σ ms H .refl rc rs
def sSeq (m n : SM) : SM := fun env C => (m env C).bind fun r => match r.1 with
  | .nx => n r.2.1 r.2.2
  | fl => some (fl, r.2.1, r.2.2)
theorem sv_seq (h1 : Sv K t m) (h2 : Sv K u n) : Sv K (tSeq t u) (sSeq m n) := by
  intro ms C σ env H D fl env' C' rc rs e q
  obtain ⟨⟨f1, env1, C1⟩, e1, e⟩ := bnd e
  refine h1 ms C σ env H _ f1 env1 C1 rc rs e1 fun σ1 ms1 H1 x1 rc1 rs1 => ?_
  cases f1 with
  | nx => exact h2 ms1 C1 σ1 env1 H1 D fl env' C' rc1 rs1 e fun σ2 ms2 H2 x2 rc2 rs2 => q σ2 ms2 H2 (x1.trans x2) rc2 rs2
  | bk => cases e; exact q σ1 ms1 H1 x1 rc1 rs1
  | ct => cases e; exact q σ1 ms1 H1 x1 rc1 rs1
  | rt av => cases e; exact q σ1 ms1 H1 x1 rc1 rs1
def sRet (me : EM) : SM := fun env C => (me env C).bind fun r => some (.rt r.1, env, r.2)
theorem sv_ret (h : Ev K te me) : Sv K (tRet te) (sRet me) := by
  intro ms C σ env H D fl env' C' rc rs e q
  obtain ⟨⟨a, C1⟩, e1, e⟩ := bnd e
  cases e
  exact h ms C σ env H _ a _ rc rs e1 fun v ms1 H1 x1 rc1 rv1 => q σ ms1 H1 x1 rc1 (rs.ext x1) v rv1
def sBad : SM := fun _ _ => none
theorem sv_never : Sv K t sBad := by
  intro ms C σ env H D fl env' C' rc rs e q
  cases e
def sIf (mt : TM) (m n : SM) : SM := fun env C => (mt env C).bind fun r => if r.1 = true then m env r.2 else n env r.2
theorem sv_if (h : Tv K tt mt) (h1 : Sv K t m) (h2 : Sv K u n) : Sv K (tIfS tt t u) (sIf mt m n) := by
  intro ms C σ env H D fl env' C' rc rs e q
  obtain ⟨⟨b, C1⟩, e1, e⟩ := bnd e
  refine h ms C σ env H _ b C1 rc rs e1 fun ms1 H1 x1 rc1 => ?_
  cases b with
  | true => exact r_it (h1 ms1 C1 σ env H1 D fl env' C' rc1 (rs.ext x1) e fun σ2 ms2 H2 x2 rc2 rs2 => q σ2 ms2 H2 (x1.trans x2) rc2 rs2)
  | false => exact r_if0 (h2 ms1 C1 σ env H1 D fl env' C' rc1 (rs.ext x1) e fun σ2 ms2 H2 x2 rc2 rs2 => q σ2 ms2 H2 (x1.trans x2) rc2 rs2)
def sAsg (me : EM) (mg : GM) : SM := fun env C => (me env C).bind fun r => (mg r.1 env r.2).bind fun s => some (.nx, s.1, s.2)
theorem sv_asg {vs : List Nat} (h : Ev K te me) (hg : Gv K vs g mg) : Sv K (tAsg te g) (sAsg me mg) := by
  intro ms C σ env H D fl env' C' rc rs e q
  obtain ⟨⟨a, C1⟩, e1, e⟩ := bnd e
  obtain ⟨⟨env2, C2⟩, e2, e⟩ := bnd e
  cases e
  refine h ms C σ env H _ a C1 rc rs e1 fun v ms1 H1 x1 rc1 rv1 => ?_
  exact hg ms1 C1 σ env H1 _ v a _ _ rc1 (rs.ext x1) rv1 e2 fun σ2 ms2 H2 x2 rc2 rs2 _ => q σ2 ms2 H2 (x1.trans x2) rc2 rs2
def sDrop (me : EM) : SM := fun env C => (me env C).bind fun r => some (.nx, env, r.2)
theorem sv_drop (h : Ev K te me) : Sv K (tDrop te) (sDrop me) := by
  intro ms C σ env H D fl env' C' rc rs e q
  obtain ⟨⟨a, C1⟩, e1, e⟩ := bnd e
  cases e
  exact h ms C σ env H _ a _ rc rs e1 fun v ms1 H1 x1 rc1 rv1 => q σ ms1 H1 x1 rc1 (rs.ext x1)
def sPar (i j : Nat) (mA : AM) : SM := fun env C => (mA env C).bind fun r => match r.1 with
  | [a, b] => some (.nx, (env.set i (some a)).set j (some b), r.2)
  | _ => none
theorem sv_par {i j : Nat} (h : Av K T mA) : Sv K (tPar i j T) (sPar i j mA) := by
  intro ms C σ env H D fl env' C' rc rs e q
  obtain ⟨⟨as, C1⟩, e1, e⟩ := bnd e
  refine h ms C σ env H _ as C1 rc rs e1 fun vs ms1 H1 x1 rc1 rv1 => ?_
  match as, e, rv1 with
  | [a, b], e, .cons h1 (.cons h2 .nil) =>
    cases e
    exact ⟨_, _, rfl, q _ ms1 H1 x1 rc1 (((rs.ext x1).set i h1).set j h2)⟩
def sPar3 (i j l : Nat) (mA : AM) : SM := fun env C => (mA env C).bind fun r => match r.1 with
  | [a, b, c] => some (.nx, ((env.set i (some a)).set j (some b)).set l (some c), r.2)
  | _ => none
structure ItOk (K : PySem.W.Frag) (J : It) (items : List AV) (keep : Cells → Bool) (ms0 : Ms) (H0 : Hp) : Prop where
  go : ∀ (i : Nat) (ms : Ms) (C : Cells) (H : Hp), Ext ms0 ms H0 H → RepC K ms C H → keep C = true → i < items.length → J.go i H
  stop : ∀ (ms : Ms) (C : Cells) (H : Hp), Ext ms0 ms H0 H → RepC K ms C H → keep C = true → J.stop items.length H
  yld : ∀ (i : Nat) (ms : Ms) (C : Cells) (H : Hp) (x : V) (H' : Hp) (av : AV), Ext ms0 ms H0 H → RepC K ms C H → keep C = true → items[i]? = some av → J.yld i H x H' → Same H H' ∧ RV K ms H' x av
abbrev IM := Env → Cells → Option (List AV × (Cells → Bool) × Cells)
def Iv (K : PySem.W.Frag) (wi : TI) (m : IM) : Prop := ∀ (ms : Ms) (C : Cells) (σ : L2.St) (env : Env) (H : Hp) (R : It → Hp → Prop) (items : List AV) (keep : Cells → Bool) (C' : Cells), RepC K ms C H → RS K ms H σ env → m env C = some (items, keep, C') →
  (∀ J ms' H', Ext ms ms' H H' → RepC K ms' C' H' → ItOk K J items keep ms' H' → R J H') → wi σ H R
theorem itT_ok {ms : Ms} {H : Hp} {a : Addr} {xs : List V} {ds : List PyData} (hx : SqT K (offs ms H) a xs) (hd : Ds K (offs ms H) xs ds) : ItOk K (Itt K a) (ds.map AV.d) (fun _ => true) ms H where
  go i ms1 C1 H1 x rc k hi := by
    rw [List.length_map, ← hd.length] at hi
    exact ⟨xs, _, sameT (x.same.trans offs_same) hx, List.getElem?_eq_getElem hi⟩
  stop ms1 C1 H1 x rc k := ⟨xs, sameT (x.same.trans offs_same) hx, by rw [List.length_map, hd.length]; exact Nat.le_refl _⟩
  yld i ms1 C1 H1 v H' av x rc k e y := by
    obtain ⟨rfl, y⟩ := y
    have e1 := y xs (sameT (x.same.trans offs_same) hx)
    obtain ⟨d, e2, hdd⟩ := hd.at e1
    rw [List.getElem?_map, e2] at e
    cases e
    exact ⟨Same.refl _, hdd.up x.same⟩
theorem itL_ok {ms : Ms} {H : Hp} {a : Addr} {xs : List V} {ds : List PyData} (hx : SqL K (offs ms H) a xs) (hd : Ds K (offs ms H) xs ds) : ItOk K (Itl K a) (ds.map AV.d) (fun _ => true) ms H where
  go i ms1 C1 H1 x rc k hi := by
    rw [List.length_map, ← hd.length] at hi
    exact ⟨xs, _, (x.same.trans offs_same).seq hx, List.getElem?_eq_getElem hi⟩
  stop ms1 C1 H1 x rc k := ⟨xs, (x.same.trans offs_same).seq hx, by rw [List.length_map, hd.length]; exact Nat.le_refl _⟩
  yld i ms1 C1 H1 v H' av x rc k e y := by
    obtain ⟨rfl, y⟩ := y
    have e1 := y xs ((x.same.trans offs_same).seq hx)
    obtain ⟨d, e2, hdd⟩ := hd.at e1
    rw [List.getElem?_map, e2] at e
    cases e
    exact ⟨Same.refl _, hdd.up x.same⟩
open Classical in
noncomputable def keepC (j : Nat) (ds : List PyData) (C : Cells) : Bool := decide (C[j]? = some (some ds))
open Classical in
theorem keepC_of {j : Nat} {ds : List PyData} {C : Cells} (h : C[j]? = some (some ds)) : keepC j ds C = true := decide_eq_true h
open Classical in
theorem of_keepC {j : Nat} {ds : List PyData} {C : Cells} (h : keepC j ds C = true) : C[j]? = some (some ds) := of_decide_eq_true h
theorem cell_later {ms ms1 : Ms} {H H1 : Hp} {C1 : Cells} {a : Addr} {j : Nat} {ds : List PyData} (hb : ms[j]? = some (some a)) (x : Ext ms ms1 H H1) (rc : RepC K ms1 C1 H1) (k : keepC j ds C1 = true) :
    ∃ xs, H1 a = some (.lst xs) ∧ Ds K (offs ms1 H1) xs ds := by
  obtain ⟨b, e⟩ := rc.has (of_keepC k)
  have e2 : b = a := by
    rcases x.st j _ hb with z | z
    · rw [e] at z; cases z; rfl
    · rw [e] at z; cases z
  subst e2
  obtain ⟨xs, ds', h1, h2, h3⟩ := rc.cell j _ e
  rw [of_keepC k] at h1
  cases h1
  exact ⟨xs, h2, h3⟩
theorem itC_ok {ms : Ms} {H : Hp} {a : Addr} {j : Nat} {ds : List PyData} (hb : ms[j]? = some (some a)) : ItOk K (Itl K a) (ds.map AV.d) (keepC j ds) ms H where
  go i ms1 C1 H1 x rc k hi := by
    obtain ⟨xs, h1, h2⟩ := cell_later hb x rc k
    rw [List.length_map, ← h2.length] at hi
    exact ⟨xs, _, SqL.of h1, List.getElem?_eq_getElem hi⟩
  stop ms1 C1 H1 x rc k := by
    obtain ⟨xs, h1, h2⟩ := cell_later hb x rc k
    exact ⟨xs, SqL.of h1, by rw [List.length_map, h2.length]; exact Nat.le_refl _⟩
  yld i ms1 C1 H1 v H' av x rc k e y := by
    obtain ⟨rfl, y⟩ := y
    obtain ⟨xs, h1, h2⟩ := cell_later hb x rc k
    have e1 := y xs (SqL.of h1)
    obtain ⟨d, e2, hdd⟩ := h2.at e1
    rw [List.getElem?_map, e2] at e
    cases e
    exact ⟨Same.refl _, hdd⟩
def rngs (lo : Int) (n : Nat) : List AV := (List.range n).map fun i => AV.d (.int (lo + (i : Nat)))
theorem itR_ok {ms : Ms} {H : Hp} {lo : Int} {n : Nat} : ItOk K (Itr lo n) (rngs lo n) (fun _ => true) ms H where
  go i ms1 C1 H1 x rc k hi := by
    rw [rngs, List.length_map, List.length_range] at hi
    exact hi
  stop ms1 C1 H1 x rc k := by
    rw [rngs, List.length_map, List.length_range]
    exact Nat.le_refl n
  yld i ms1 C1 H1 v H' av x rc k e y := by
    obtain ⟨rfl, rfl⟩ := y
    rw [rngs, List.getElem?_map] at e
    cases q : (List.range n)[i]? with
    | none => rw [q] at e; cases e
    | some z =>
      rw [q] at e
      cases e
      obtain ⟨h1, h2⟩ := List.getElem?_eq_some_iff.mp q
      rw [List.getElem_range] at h2
      subst h2
      exact ⟨Same.refl _, .int _⟩
def iR1 (mA : AM) : IM := fun env C => (mA env C).bind fun r => match r.1 with
  | [.d (.int j)] => if j.natAbs ≤ 1000000 then some (rngs 0 j.toNat, fun _ => true, r.2) else none
  | _ => none
theorem iv_rng1 (h : Av K T mA) : Iv K (iRng1 T) (iR1 mA) := by
  intro ms C σ env H R items keep C' rc rs e q
  obtain ⟨⟨as, C1⟩, e1, e⟩ := bnd e
  refine h ms C σ env H _ as C1 rc rs e1 fun vs ms1 H1 x1 rc1 rv1 => ?_
  match as, e, rv1 with
  | [.d (.int j)], e, .cons h1 .nil =>
    cases Dd.isInt h1
    have e : (if j.natAbs ≤ 1000000 then some (rngs 0 j.toNat, (fun _ => true), C1) else none) = some (items, keep, C') := e
    by_cases hj : j.natAbs ≤ 1000000
    · rw [if_pos hj] at e
      cases e
      exact ⟨j, rfl, by omega, by omega, q _ ms1 H1 x1 rc1 itR_ok⟩
    · rw [if_neg hj] at e
      cases e
/-- zip of two tuples, of two lists -/
def zipD : List PyData → List PyData → List AV
  | x :: xs, y :: ys => .d (.tuple [x, y]) :: zipD xs ys
  | _, _ => []
theorem zipD_len : ∀ {xs ys : List PyData}, (zipD xs ys).length = min xs.length ys.length
  | [], ys => by rw [zipD, List.length_nil, List.length_nil, Nat.zero_min]; simp
  | x :: xs, [] => by rw [zipD, List.length_nil, List.length_nil, Nat.min_zero]; simp
  | x :: xs, y :: ys => by rw [zipD, List.length_cons, List.length_cons, List.length_cons, zipD_len]; omega
theorem zipD_at : ∀ {xs ys : List PyData} {i : Nat} {av : AV}, (zipD xs ys)[i]? = some av → ∃ x y, xs[i]? = some x ∧ ys[i]? = some y ∧ av = .d (.tuple [x, y])
  | [], ys, i, av, h => by rw [zipD] at h; cases h; simp
  | x :: xs, [], i, av, h => by rw [zipD] at h; cases h; simp
  | x :: xs, y :: ys, 0, av, h => by
    rw [zipD] at h
    cases h
    exact ⟨x, y, rfl, rfl, rfl⟩
  | x :: xs, y :: ys, i + 1, av, h => by
    rw [zipD, List.getElem?_cons_succ] at h
    obtain ⟨a, b, h1, h2, h3⟩ := zipD_at h
    exact ⟨a, b, by rw [List.getElem?_cons_succ]; exact h1, by rw [List.getElem?_cons_succ]; exact h2, h3⟩
theorem itZ_ok {ms : Ms} {H : Hp} {a b : Addr} {xs ys : List V} {ds es : List PyData} (hx : SqT K (offs ms H) a xs) (hd : Ds K (offs ms H) xs ds) (hy : SqT K (offs ms H) b ys) (he : Ds K (offs ms H) ys es) : ItOk K (RZ.ItzT K a b) (zipD ds es) (fun _ => true) ms H where
  go i ms1 C1 H1 x rc k hi := by
    rw [zipD_len, ← hd.length, ← he.length] at hi
    have i1 : i < xs.length := by omega
    have i2 : i < ys.length := by omega
    exact ⟨xs, ys, _, _, sameT (x.same.trans offs_same) hx, sameT (x.same.trans offs_same) hy, List.getElem?_eq_getElem i1, List.getElem?_eq_getElem i2⟩
  stop ms1 C1 H1 x rc k := ⟨xs, ys, sameT (x.same.trans offs_same) hx, sameT (x.same.trans offs_same) hy, by rw [zipD_len, ← hd.length, ← he.length]; omega⟩
  yld i ms1 C1 H1 v H' av x rc k e y := by
    obtain ⟨t, x', y', rfl, ht, rfl, f1, f2⟩ := y
    have e1 := f1 xs (sameT (x.same.trans offs_same) hx)
    have e2 := f2 ys (sameT (x.same.trans offs_same) hy)
    obtain ⟨d, q1, hdd⟩ := hd.at e1
    obtain ⟨e', q2, hee⟩ := he.at e2
    obtain ⟨d2, e3, g1, g2, rfl⟩ := zipD_at e
    rw [q1] at g1
    rw [q2] at g2
    cases g1
    cases g2
    exact ⟨new_same _ ht, made_ms rc ht (.cons (hdd.up x.same) (.cons (hee.up x.same) .nil))⟩
theorem itZL_ok {ms : Ms} {H : Hp} {a b : Addr} {xs ys : List V} {ds es : List PyData} (hx : SqL K (offs ms H) a xs) (hd : Ds K (offs ms H) xs ds) (hy : SqL K (offs ms H) b ys) (he : Ds K (offs ms H) ys es) : ItOk K (Itz K a b) (zipD ds es) (fun _ => true) ms H where
  go i ms1 C1 H1 x rc k hi := by
    rw [zipD_len, ← hd.length, ← he.length] at hi
    have i1 : i < xs.length := by omega
    have i2 : i < ys.length := by omega
    exact ⟨xs, ys, _, _, (x.same.trans offs_same).seq hx, (x.same.trans offs_same).seq hy, List.getElem?_eq_getElem i1, List.getElem?_eq_getElem i2⟩
  stop ms1 C1 H1 x rc k := ⟨xs, ys, (x.same.trans offs_same).seq hx, (x.same.trans offs_same).seq hy, by rw [zipD_len, ← hd.length, ← he.length]; omega⟩
  yld i ms1 C1 H1 v H' av x rc k e y := by
    obtain ⟨t, x', y', rfl, ht, rfl, f1, f2⟩ := y
    have e1 := f1 xs ((x.same.trans offs_same).seq hx)
    have e2 := f2 ys ((x.same.trans offs_same).seq hy)
    obtain ⟨d, q1, hdd⟩ := hd.at e1
    obtain ⟨e', q2, hee⟩ := he.at e2
    obtain ⟨d2, e3, g1, g2, rfl⟩ := zipD_at e
    rw [q1] at g1
    rw [q2] at g2
    cases g1
    cases g2
    exact ⟨new_same _ ht, made_ms rc ht (.cons (hdd.up x.same) (.cons (hee.up x.same) .nil))⟩
def iZ (mA : AM) : IM := fun env C => (mA env C).bind fun r => match r.1 with
  | [.d (.tuple xs), .d (.tuple ys)] => some (zipD xs ys, fun _ => true, r.2)
  | [.d (.list xs), .d (.list ys)] => some (zipD xs ys, fun _ => true, r.2)
  | _ => none
theorem iv_zip (h : Av K T mA) : Iv K (RZ.iZipA K T) (iZ mA) := by
  intro ms C σ env H R items keep C' rc rs e q
  obtain ⟨⟨as, C1⟩, e1, e⟩ := bnd e
  refine h ms C σ env H _ as C1 rc rs e1 fun vs ms1 H1 x1 rc1 rv1 => ?_
  match as, e, rv1 with
  | [.d (.tuple xs), .d (.tuple ys)], e, .cons h1 (.cons h2 .nil) =>
    cases e
    obtain ⟨a, us, rfl, hx, hd⟩ := Dd.seqT h1
    obtain ⟨b, ws, rfl, hy, he⟩ := Dd.seqT h2
    exact ⟨a, b, us, ws, rfl, .inr ⟨sameT offs_same hx, sameT offs_same hy, q _ ms1 H1 x1 rc1 (itZ_ok hx hd hy he)⟩⟩
  | [.d (.list xs), .d (.list ys)], e, .cons h1 (.cons h2 .nil) =>
    cases e
    cases (show Dd K (offs ms1 H1) _ (.list xs) from h1) with
    | lst hx hd =>
      cases (show Dd K (offs ms1 H1) _ (.list ys) from h2) with
      | lst hy he => exact ⟨_, _, _, _, rfl, .inl ⟨offs_same.seq hx.seq, offs_same.seq hy.seq, q _ ms1 H1 x1 rc1 (itZL_ok hx.seq hd hy.seq he)⟩⟩
def loop (keep : Cells → Bool) (mg : GM) (mb : SM) : List AV → Env → Cells → Option (Fl × Env × Cells)
  | [], env, C => if keep C = true then some (.nx, env, C) else none
  | x :: xs, env, C => if keep C = true then (mg x env C).bind fun r => (mb r.1 r.2).bind fun s => match s.1 with
      | .nx => loop keep mg mb xs s.2.1 s.2.2
      | .ct => loop keep mg mb xs s.2.1 s.2.2
      | .bk => some (.nx, s.2.1, s.2.2)
      | .rt av => some (.rt av, s.2.1, s.2.2)
    else none
def sFor (it : IM) (mg : GM) (mb : SM) : SM := fun env C => (it env C).bind fun r => loop r.2.1 mg mb r.1 env r.2.2
theorem sv_for {wi : TI} {it : IM} {vs : List Nat} {tb : TS} {mb : SM} (hi : Iv K wi it) (hg : Gv K vs g mg) (hb : Sv K tb mb) : Sv K (tFor wi g tb) (sFor it mg mb) := by
  intro ms C σ env H D fl env' C' rc rs e q
  obtain ⟨⟨items, keep, C1⟩, e1, e⟩ := bnd e
  refine hi ms C σ env H _ items keep C1 rc rs e1 fun J ms0 H0 x0 rc0 ok => ?_
  refine ⟨fun i k σ H => k = items.length - i ∧ i ≤ items.length ∧ ∃ ms1 C2 env2, Ext ms0 ms1 H0 H ∧ RepC K ms1 C2 H ∧ RS K ms1 H σ env2 ∧ loop keep mg mb (items.drop i) env2 C2 = some (fl, env', C'),
    ⟨_, rfl, Nat.zero_le _, ms0, C1, env, .refl, rc0, rs.ext x0, e⟩, ?_⟩
  rintro i k σ1 H1 ⟨rfl, hle, ms1, C2, env2, x1, rc1, rs1, e2⟩
  by_cases hlt : i < items.length
  · have hav := List.getElem?_eq_getElem hlt
    rw [List.drop_eq_getElem_cons hlt, loop] at e2
    generalize items[i] = av at e2 hav
    by_cases hk : keep C2 = true
    · rw [if_pos hk] at e2
      obtain ⟨⟨env3, C3⟩, e3, e2⟩ := bnd e2
      obtain ⟨⟨f4, env4, C4⟩, e4, e2⟩ := bnd e2
      refine .inr ⟨ok.go i ms1 C2 H1 x1 rc1 hk hlt, fun σ H => ∃ ms1 C2 env2, Ext ms0 ms1 H0 H ∧ RepC K ms1 C2 H ∧ RS K ms1 H σ env2 ∧ loop keep mg mb (items.drop (i + 1)) env2 C2 = some (fl, env', C'),
        fun σ' H' p => ⟨items.length - (i + 1), by omega, rfl, hlt, p⟩, fun x H2 y => ?_⟩
      obtain ⟨s2, rv⟩ := ok.yld i ms1 C2 H1 x H2 av x1 rc1 hk hav y
      refine hg ms1 C2 σ1 env2 H2 _ x av env3 C3 (rc1.up s2) (rs1.ext (.of s2)) rv e3 fun σ3 ms3 H3 x3 rc3 rs3 _ => ?_
      have x13 : Ext ms0 ms3 H0 H3 := (x1.trans (.of s2)).trans x3
      refine hb ms3 C3 σ3 env3 H3 _ f4 env4 C4 rc3 rs3 e4 fun σ4 ms4 H4 x4 rc4 rs4 => ?_
      cases f4 with
      | nx => exact ⟨ms4, C4, env4, x13.trans x4, rc4, rs4, e2⟩
      | ct => exact ⟨ms4, C4, env4, x13.trans x4, rc4, rs4, e2⟩
      | bk =>
        cases e2
        exact q σ4 ms4 H4 ((x0.trans x13).trans x4) rc4 rs4
      | rt av =>
        cases e2
        exact q σ4 ms4 H4 ((x0.trans x13).trans x4) rc4 rs4
    · rw [if_neg hk] at e2
      cases e2
  · have e3 : i = items.length := by omega
    subst e3
    rw [List.drop_length, loop] at e2
    by_cases hk : keep C2 = true
    · rw [if_pos hk] at e2
      cases e2
      exact .inl ⟨ok.stop ms1 _ H1 x1 rc1 hk, q σ1 ms1 H1 (x0.trans x1) rc1 rs1⟩
    · rw [if_neg hk] at e2
      cases e2
def pushC (j : Nat) (av : AV) (C : Cells) : Option Cells := match av with
  | .d z => C[j]?.join.bind fun ds => if ds.length ≤ 1000 then some (C.set j (some (ds ++ [z]))) else none
  | _ => none
def comp (keep : Cells → Bool) (mg : GM) (mt : TM) (me : EM) (j : Nat) (env : Env) : List AV → Cells → Option Cells
  | [], C => if keep C = true then some C else none
  | x :: xs, C => if keep C = true then (mg x env C).bind fun r => (mt r.1 r.2).bind fun b => if b.1 = true then (me r.1 b.2).bind fun y => (pushC j y.1 y.2).bind fun C2 => comp keep mg mt me j env xs C2 else comp keep mg mt me j env xs b.2
    else none
def mLc (it : IM) (mg : GM) (mt : TM) (me : EM) (vs : List Nat) : EM := fun env C => (it env C).bind fun r => (comp r.2.1 mg mt me r.2.2.length (wipeE env vs) r.1 (r.2.2 ++ [some []])).bind fun C2 => C2[r.2.2.length]?.join.bind fun ds => some (.d (.list ds), C2.take r.2.2.length)
def mYes : TM := fun _ C => some (true, C)
theorem tv_yes : Tv K tYes mYes := by
  intro ms C σ env H Q b C' rc rs h q
  cases h
  exact q ms H .refl rc
theorem ev_lc {wi : TI} {it : IM} {vs : List Nat} (hi : Iv K wi it) (hg : Gv K vs g mg) (ht : Tv K tt mt) (he : Ev K te me) : Ev K (tLc wi g tt te vs) (mLc it mg mt me vs) := by
  intro ms C σ env H Q av C' rc rs e q
  obtain ⟨⟨items, keep, C1⟩, e1, e⟩ := bnd e
  obtain ⟨CE, eL, e⟩ := bnd e
  obtain ⟨dsE, eJ, e⟩ := bnd e
  cases e
  refine hi ms C σ env H _ items keep C1 rc rs e1 fun J ms0 H0 x0 rc0 ok D hD => ?_
  obtain ⟨f1, f2, f3⟩ := fresh (K := K) (xs := []) (ds := []) rc0 hD .nil
  refine ⟨fun i k H => k = items.length - i ∧ i ≤ items.length ∧ ∃ ms1 C2, Ext (ms0 ++ [some D]) ms1 (upd H0 D (.lst [])) H ∧ RepC K ms1 C2 H ∧ comp keep mg mt me C1.length (wipeE env vs) (items.drop i) C2 = some CE,
    ⟨_, rfl, Nat.zero_le _, _, _, .refl, f2, eL⟩, ?_⟩
  rintro i k H1 ⟨rfl, hle, ms1, C2, x1, rc1, e2⟩
  have hj0 : (ms0 ++ [some D])[C1.length]? = some (some D) := by
    rw [← rc0.len, List.getElem?_append_right (Nat.le_refl _), Nat.sub_self]
    rfl
  have xa : Ext ms0 ms1 H0 H1 := f1.trans x1
  by_cases hlt : i < items.length
  · have hav := List.getElem?_eq_getElem hlt
    rw [List.drop_eq_getElem_cons hlt, comp] at e2
    generalize items[i] = av at e2 hav
    by_cases hk : keep C2 = true
    · rw [if_pos hk] at e2
      obtain ⟨⟨env3, C3⟩, e3, e2⟩ := bnd e2
      obtain ⟨⟨b4, C4⟩, e4, e2⟩ := bnd e2
      refine .inr ⟨ok.go i ms1 C2 H1 xa rc1 hk hlt, fun H => ∃ ms1 C2, Ext (ms0 ++ [some D]) ms1 (upd H0 D (.lst [])) H ∧ RepC K ms1 C2 H ∧ comp keep mg mt me C1.length (wipeE env vs) (items.drop (i + 1)) C2 = some CE,
        fun H' p => ⟨items.length - (i + 1), by omega, rfl, hlt, p⟩, fun x H2 y => ?_⟩
      obtain ⟨s2, rv⟩ := ok.yld i ms1 C2 H1 x H2 av xa rc1 hk hav y
      have rsw := (((rs.ext x0).ext xa).ext (.of s2)).wipes vs
      refine hg ms1 C2 (L2.wipe σ vs) (wipeE env vs) H2 _ x av env3 C3 (rc1.up s2) rsw rv e3 fun σ3 ms3 H3 x3 rc3 rs3 w3 => ⟨by rw [w3, wipe_wipe], ?_⟩
      have x13 := (x1.trans (.of s2)).trans x3
      refine ht ms3 C3 σ3 env3 H3 _ b4 C4 rc3 rs3 e4 fun ms4 H4 x4 rc4 => ?_
      cases b4 with
      | false => exact r_if0 ⟨ms4, C4, x13.trans x4, rc4, e2⟩
      | true =>
        obtain ⟨⟨y5, C5⟩, e5, e2⟩ := bnd e2
        obtain ⟨C6, e6, e2⟩ := bnd e2
        refine r_it (he ms4 C4 σ3 env3 H4 _ y5 C5 rc4 (rs3.ext x4) e5 fun v ms5 H5 x5 rc5 rv5 => ?_)
        match y5, e6, rv5 with
        | .d z, e6, rv5 =>
          obtain ⟨ds, e7, e6⟩ := bnd e6
          have e6 : (if ds.length ≤ 1000 then some (C5.set C1.length (some (ds ++ [z]))) else none) = some C6 := e6
          by_cases hl : ds.length ≤ 1000
          · rw [if_pos hl] at e6
            cases e6
            have x15 := (x13.trans x4).trans x5
            obtain ⟨xs, g1, g2⟩ := cell_later hj0 x15 rc5 (keepC_of (join_some e7))
            have g3 : ms5[C1.length]? = some (some D) := by
              obtain ⟨b, eb⟩ := rc5.has (join_some e7)
              rcases x15.st _ _ hj0 with z | z
              · exact z
              · rw [eb] at z; cases z
            obtain ⟨p1, p2⟩ := put rc5 g3 g1 (g2.append (.cons rv5 .nil))
            exact ⟨xs, g1, small1000 (by rw [g2.length]; exact hl), ms5, _, x15.trans p1, p2, e2⟩
          · rw [if_neg hl] at e6
            cases e6
    · rw [if_neg hk] at e2
      cases e2
  · have e3 : i = items.length := by omega
    subst e3
    rw [List.drop_length, comp] at e2
    by_cases hk : keep C2 = true
    · rw [if_pos hk] at e2
      cases e2
      refine .inl ⟨ok.stop ms1 _ H1 xa rc1 hk, ?_⟩
      obtain ⟨g1, g2⟩ := drop_new C1.length rc1
      obtain ⟨xs, p1, p2⟩ := cell_later hj0 x1 rc1 (keepC_of (join_some eJ))
      have nD : some D ∉ ms1.take C1.length := fun z => by
        obtain ⟨l, hl⟩ := List.getElem?_of_mem z
        have hl1 := (List.getElem?_eq_some_iff.mp hl).1
        rw [List.length_take] at hl1
        have hl2 : l < C1.length := by omega
        rw [List.getElem?_take_of_lt hl2] at hl
        have g3 : ms1[C1.length]? = some (some D) := by
          obtain ⟨b, eb⟩ := rc1.has (join_some eJ)
          rcases x1.st _ _ hj0 with z | z
          · exact z
          · rw [eb] at z; cases z
        have := rc1.one l C1.length D hl g3
        omega
      refine q (.ref D) (ms1.take C1.length) H1 (x0.trans (xa.drop rc0.len.symm)) g1 ?_
      exact .lst (SqM.of (by rw [offs_out nD]; exact p1)) (p2.up g2)
    · rw [if_neg hk] at e2
      cases e2
end
end M
namespace M
open PySem PySem.Spec PyProof.Rows L2 Z
section
variable {X : Cx}
def rCatM (K : PySem.W.Frag) : R2 := fun x y H Q => ∃ l b xs zs, x = .ref l ∧ y = .ref b ∧ SqM K H l xs ∧ SqM K H b zs ∧ xs.length + zs.length ≤ sizeLine ∧ ∀ p, H p = none → Q (.ref p) (upd H p (.lst (xs ++ zs)))
theorem op_catM : OpR X (binaryOp .Add) (rCatM X.K) := by
  intro pins s σ H x y v u Q I rx ry h
  obtain ⟨l, b, xs, zs, rfl, rfl, hH, hB, hz, q⟩ := h
  cases rx
  cases ry
  obtain ⟨its, n, r, e, z⟩ := listM I hH
  obtain ⟨its2, n2, r2, e2, z2⟩ := listM I hB
  have hl := r.length
  have hl2 := r2.length
  refine PySem.P.add_list e e2 ?_ (by rw [List.size_toArray, List.size_toArray]; omega)
  have ea : its.toArray ++ its2.toArray = (its ++ its2).toArray := by simp
  rw [ea]
  exact ⟨.ref _, _, I.lnew (t' := s.toks) (r.append r2) (by rw [List.length_append]; omega), rfl, q _ I.fresh⟩
def rRepM (K : PySem.W.Frag) : R2 := fun x y H Q => ∃ l k xs, x = .ref l ∧ y = .int k ∧ SqM K H l xs ∧ -(2 ^ 63) ≤ k ∧ k < 2 ^ 63 ∧ xs.length * k.toNat ≤ sizeLine ∧
  ∀ p, H p = none → Q (.ref p) (upd H p (.lst (List.replicate k.toNat xs).flatten))
theorem op_repM : OpR X (binaryOp .Mult) (rRepM X.K) := by
  intro pins s σ H x y v u Q I rx ry h
  obtain ⟨l, k, xs, rfl, rfl, hH, h1, h2, hz, q⟩ := h
  cases rx
  obtain ⟨t, rfl⟩ := ry
  obtain ⟨its, n, r, e, z⟩ := listM I hH
  have hl := r.length
  have hlen : its.toArray.size * k.toNat ≤ sizeLine := by rw [List.size_toArray, ← hl]; exact hz
  have hcap : ¬ its.toArray.size * k.toNat > (2 ^ 63 - 1) / 8 := by
    have : (sizeLine : Nat) ≤ (2 ^ 63 - 1) / 8 := by decide
    omega
  have hfit : ¬ (!Builtin.List.listFitsIndex k) = true := by
    rw [fitsIndex_both h1 h2]
    exact Bool.false_ne_true
  have hlong : ¬ Builtin.List.listTooLong (its.toArray.size * k.toNat) = true := by
    rw [notLongL hlen]
    exact Bool.false_ne_true
  have hnew : List.foldl (fun x1 x2 => x1 ++ x2) #[] (List.replicate (if its.toArray.isEmpty = true then 0 else k.toNat) its.toArray) = (List.replicate k.toNat its).flatten.toArray := by
    have f0 : ∀ m : Nat, List.foldl (fun x1 x2 => x1 ++ x2) #[] (List.replicate m its.toArray) = (List.replicate m its).flatten.toArray := fun m => by
      have := foldl_rep its m []
      rw [List.nil_append] at this
      exact this
    rw [f0]
    cases its with
    | nil => simp
    | cons a r' => rw [if_neg (by simp)]
  refine wpAny_binaryOp_repeat_ref (T := "list") (U := "int") (by decide) ⟨_, e, rfl⟩ (fun s' => typeIs_int s' k t) noFill_list_mul F.fills_int_mul F.slot_int_rmul repeat_list F.slot_int_index.lookup
    (call_meets F.slot_int_rmul (typeIs_int s k t) F.entry_int_rmul (F.args_int_rmul_2 _ _) (int___rmul___int_list k t l its.toArray n)
      ⟨e, rfl, ⟨_, e, rfl⟩, call_meets F.slot_list_mul ⟨_, e, rfl⟩ F.entry_list_mul (F.args_list_mul_2 _ _) (AutoListH.list___mul___list_int_3 l its.toArray n k t hfit hcap hlong) ⟨e, ?_⟩⟩)
  rw [hnew]
  exact ⟨.ref _, _, I.lnew (t' := s.toks) (r.rep k.toNat) (by rw [PyProof.Rows.lm_len_rep_flat, Nat.mul_comm]; exact hz), rfl, q _ I.fresh⟩
def rOr (r r' : R2) : R2 := fun x y H Q => r x y H Q ∨ r' x y H Q
def rCatS : R2 := fun x y H Q => ∃ i j, x = .str i ∧ y = .str j ∧ i.length + j.length ≤ sizeLine ∧ Q (.str (i ++ j)) H
def rAdd (K : PySem.W.Frag) : R2 := rOr (rI0 fun i j => .int (i + j)) (rOr (rCatA K) (rOr (rCatM K) rCatS))
theorem op_plus : OpR X (binaryOp .Add) (rAdd X.K) := OpR.or op_add (OpR.or op_catA (OpR.or op_catM op_add_str))
def rMul (K : PySem.W.Frag) : R2 := rOr (rI CMul fun i j => .int (i * j)) (rOr (rRepT K) (rRepM K))
theorem op_star : OpR X (binaryOp .Mult) (rMul X.K) := OpR.or op_mul (OpR.or op_repT op_repM)
def rEqA (K : PySem.W.Frag) : R2 := rOr rEq (rEqD K)
def rNeA (K : PySem.W.Frag) : R2 := rOr rNe (rNeD K)
theorem op_eqA {k : Nat} (hr : Room k X.A) : OpR X (compareOp .Eq) (rEqA X.K) := OpR.or op_eq (op_eqD hr.units)
theorem op_neA {k : Nat} (hr : Room k X.A) : OpR X (compareOp .NotEq) (rNeA X.K) := OpR.or op_ne (op_neD hr.units)
def rLtS : R2 := fun x y H Q => ∃ i j, x = .str i ∧ y = .str j ∧ Q (.bl (decide (i.cps.toList < j.cps.toList))) H
def rLt (K : PySem.W.Frag) : R2 := rOr (rI0 fun i j => .bl (decide (i < j))) (rOr rLtS (rLtP K))
theorem op_ltA {k : Nat} (hr : Room k X.A) : OpR X (compareOp .Lt) (rLt X.K) := OpR.or op_lt (OpR.or op_lt_str (op_ltP (u80 hr)))
def rSlAny (K : PySem.W.Frag) : V → Option Int → Option Int → Hp → VK → Prop := fun x lo hi H Q => rSlA K x lo hi H Q ∨ (rSlL K x lo hi H Q ∨ rSlS x lo hi H Q)
theorem sl_any : SlR X (rSlAny X.K) := SlR.or sl_tupA (SlR.or sl_list sl_str)
def iAny (K : PySem.W.Frag) (te : TE) : TI := fun σ H R => iTup K te σ H R ∨ iList K te σ H R
theorem pi_any {tg e : Expr} {te : TE} (he : PE X e te) : PI X tg e (iAny X.K te) :=
  ⟨fun pins s σ H R I h => h.elim (fun h => (pi_tup he).run pins s σ H R I h) fun h => (pi_list he).run pins s σ H R I h⟩
def rLen (K : PySem.W.Frag) : List V → Hp → VK → Prop := fun xs H Q => ∃ x n, xs = [x] ∧ LenV K x H n ∧ Q (.int (n : Nat)) H
theorem c_lenA : CallR X (.builtin "len") (rLen X.K) := call_len
end
section
variable {K : PySem.W.Frag} {ms : Ms} {C : Cells} {H : Hp}
def itemsL (C : Cells) : AV → Option (List PyData)
  | .d (.list ds) => some ds
  | .c j => C[j]?.join
  | _ => none
theorem RV.listM {v : V} {av : AV} {ds : List PyData} (r : RepC K ms C H) (h : RV K ms H v av) (e : itemsL C av = some ds) : ∃ a xs, v = .ref a ∧ SqM K H a xs ∧ Ds K (offs ms H) xs ds := by
  cases av with
  | d y =>
    cases y with
    | list es =>
      cases e
      cases (show Dd K (offs ms H) v (.list ds) from h) with
      | lst hs ha => exact ⟨_, _, rfl, sameM offs_same hs, ha⟩
    | _ => cases e
  | c j =>
    obtain ⟨a, xs, rfl, h2, h3, h4⟩ := h.cell r (join_some (show C[j]?.join = some ds from e))
    exact ⟨a, xs, rfl, SqM.of h3, h4⟩
  | t n => cases e
def asI : AV → Option Int
  | .d (.int i) => some i
  | _ => none
def asS : AV → Option Str
  | .d (.str i) => some i
  | _ => none
def asT : AV → Option (List PyData)
  | .d (.tuple ds) => some ds
  | _ => none
theorem asI_some {v : V} {av : AV} {i : Int} (h : RV K ms H v av) (e : asI av = some i) : v = .int i := by
  match av, e with
  | .d (.int j), e => cases e; exact Dd.isInt h
theorem asS_some {v : V} {av : AV} {i : Str} (h : RV K ms H v av) (e : asS av = some i) : v = .str i := by
  match av, e with
  | .d (.str j), e => cases e; exact Dd.isStr h
theorem asT_some {v : V} {av : AV} {ds : List PyData} (h : RV K ms H v av) (e : asT av = some ds) : ∃ a xs, v = .ref a ∧ SqT K (offs ms H) a xs ∧ Ds K (offs ms H) xs ds := by
  match av, e with
  | .d (.tuple es), e => cases e; exact Dd.seqT h
def pII (g : Int → Int → PyData) (C : Cells) (a b : AV) : Option PyData := (asI a).bind fun i => (asI b).bind fun j => some (g i j)
open Classical in
noncomputable def pIIc (c : Int → Int → Prop) (g : Int → Int → PyData) (C : Cells) (a b : AV) : Option PyData := (asI a).bind fun i => (asI b).bind fun j => if c i j then some (g i j) else none
theorem r2_ii {g : Int → Int → V} {g' : Int → Int → PyData} (hg : ∀ i j H, Dd K H (g i j) (g' i j)) : R2v K (rI0 g) (pII g') := by
  intro ms C H x y a b z Q rc h1 h2 e q
  obtain ⟨i, e1, e⟩ := bnd e
  obtain ⟨j, e2, e⟩ := bnd e
  cases e
  exact ⟨i, j, asI_some h1 e1, asI_some h2 e2, q _ H (Same.refl H) (hg i j _)⟩
open Classical in
theorem r2_iic {c : Int → Int → Prop} {g : Int → Int → V} {g' : Int → Int → PyData} (hg : ∀ i j H, Dd K H (g i j) (g' i j)) : R2v K (rI c g) (pIIc c g') := by
  intro ms C H x y a b z Q rc h1 h2 e q
  obtain ⟨i, e1, e⟩ := bnd e
  obtain ⟨j, e2, e⟩ := bnd e
  have e : (if c i j then some (g' i j) else none) = some z := e
  by_cases hc : c i j
  · rw [if_pos hc] at e
    cases e
    exact ⟨i, j, asI_some h1 e1, asI_some h2 e2, hc, q _ H (Same.refl H) (hg i j _)⟩
  · rw [if_neg hc] at e
    cases e
def pSub : Cells → AV → AV → Option PyData := pII fun i j => .int (i - j)
theorem r2_sub : R2v K (rI0 fun i j => .int (i - j)) pSub := r2_ii fun _ _ _ => .int _
noncomputable def pMod : Cells → AV → AV → Option PyData := pIIc (fun _ j => 0 < j) fun i j => .int (i % j)
theorem r2_mod : R2v K (rI (fun _ j => 0 < j) fun i j => .int (i % j)) pMod := r2_iic fun _ _ _ => .int _
noncomputable def pFdiv : Cells → AV → AV → Option PyData := pIIc CDiv fun i j => .int (i / j)
theorem r2_fdiv : R2v K (rI CDiv fun i j => .int (i / j)) pFdiv := r2_iic fun _ _ _ => .int _
noncomputable def pPow : Cells → AV → AV → Option PyData := pIIc CPow fun i j => .int (i ^ j.toNat)
theorem r2_pow : R2v K (rI CPow fun i j => .int (i ^ j.toNat)) pPow := r2_iic fun _ _ _ => .int _
def pLe : Cells → AV → AV → Option PyData := pII fun i j => .bool (decide (i ≤ j))
def pGt : Cells → AV → AV → Option PyData := pII fun i j => .bool (decide (j < i))
theorem r2_gt : R2v K (rI0 fun i j => .bl (decide (j < i))) pGt := r2_ii fun _ _ _ => .bl _
def pGe : Cells → AV → AV → Option PyData := pII fun i j => .bool (decide (j ≤ i))
theorem r2_ge : R2v K (rI0 fun i j => .bl (decide (j ≤ i))) pGe := r2_ii fun _ _ _ => .bl _
def pNeg (C : Cells) (a : AV) : Option PyData := (asI a).bind fun i => some (.int (-i))
theorem r1_neg : R1v K (rU fun i => .int (-i)) pNeg := by
  intro ms C H x a z Q rc h e q
  obtain ⟨i, e1, e⟩ := bnd e
  cases e
  exact ⟨i, asI_some h e1, q _ H (Same.refl H) (.int _)⟩
/-- + -/
def pAdd (C : Cells) (a b : AV) : Option PyData := match asI a with
  | some i => (asI b).bind fun j => some (.int (i + j))
  | none => match asT a with
    | some xs => (asT b).bind fun ys => (lim (xs ++ ys)).bind fun zs => some (.tuple zs)
    | none => match asS a with
      | some s => (asS b).bind fun t => if s.length + t.length ≤ 100000 then some (.str (s ++ t)) else none
      | none => (itemsL C a).bind fun xs => (itemsL C b).bind fun ys => (lim (xs ++ ys)).bind fun zs => some (.list zs)
theorem hundred {n : Nat} (h : n ≤ 100000) : n ≤ sizeLine := Nat.le_trans h (by decide)
theorem r2_add : R2v K (rAdd K) pAdd := by
  intro ms C H x y a b z Q rc h1 h2 e q
  unfold pAdd at e
  split at e
  · rename_i i e1
    obtain ⟨j, e2, e⟩ := bnd e
    cases e
    exact .inl ⟨i, j, asI_some h1 e1, asI_some h2 e2, q _ H (Same.refl H) (.int _)⟩
  · split at e
    · rename_i xs e1
      obtain ⟨ys, e2, e⟩ := bnd e
      obtain ⟨zs, e3, e⟩ := bnd e
      cases e
      obtain ⟨rfl, hl⟩ := lim_some e3
      rw [List.length_append] at hl
      obtain ⟨p, us, rfl, hp, hpd⟩ := asT_some h1 e1
      obtain ⟨r, ws, rfl, hr, hrd⟩ := asT_some h2 e2
      have l1 := hpd.length
      have l2 := hrd.length
      refine .inr (.inl ⟨p, r, us, ws, rfl, rfl, sameT offs_same hp, sameT offs_same hr, Nat.le_of_lt (small1000 (by omega)), fun e => ?_, fun _ e => ?_, fun _ _ t ht => ?_⟩)
      · subst e
        cases hpd
        exact q _ H (Same.refl H) (.tup hr hrd)
      · subst e
        cases hrd
        rw [List.append_nil] at q
        exact q _ H (Same.refl H) (.tup hp hpd)
      · exact q _ _ (new_same _ ht) (made_ms rc ht (hpd.append hrd))
    · split at e
      · rename_i s e1
        obtain ⟨t, e2, e⟩ := bnd e
        have e : (if s.length + t.length ≤ 100000 then some (PyData.str (s ++ t)) else none) = some z := e
        by_cases hc : s.length + t.length ≤ 100000
        · rw [if_pos hc] at e
          cases e
          exact .inr (.inr (.inr ⟨s, t, asS_some h1 e1, asS_some h2 e2, hundred hc, q _ H (Same.refl H) (.str _)⟩))
        · rw [if_neg hc] at e
          cases e
      · obtain ⟨xs, e1, e⟩ := bnd e
        obtain ⟨ys, e2, e⟩ := bnd e
        obtain ⟨zs, e3, e⟩ := bnd e
        cases e
        obtain ⟨rfl, hl⟩ := lim_some e3
        rw [List.length_append] at hl
        obtain ⟨p, us, rfl, hp, hpd⟩ := h1.listM rc e1
        obtain ⟨r, ws, rfl, hr, hrd⟩ := h2.listM rc e2
        have l1 := hpd.length
        have l2 := hrd.length
        exact .inr (.inr (.inl ⟨p, r, us, ws, rfl, rfl, hp, hr, Nat.le_of_lt (small1000 (by omega)), fun t ht => q _ _ (new_same _ ht) (made_msL rc ht (hpd.append hrd))⟩))
open Classical in
noncomputable def pMul (C : Cells) (a b : AV) : Option PyData := match asI a with
  | some i => (asI b).bind fun j => if CMul i j then some (.int (i * j)) else none
  | none => (asI b).bind fun k => match asT a with
    | some xs => if xs ≠ [] ∧ 2 ≤ k ∧ k ≤ 1000 ∧ xs.length ≤ 1000 then some (.tuple (List.replicate k.toNat xs).flatten) else none
    | none => (itemsL C a).bind fun xs => if 0 ≤ k ∧ k ≤ 1000 ∧ xs.length ≤ 1000 then some (.list (List.replicate k.toNat xs).flatten) else none
theorem ds_rep {K : PySem.W.Frag} {H : Hp} {xs : List V} {ds : List PyData} (h : Ds K H xs ds) : ∀ n : Nat, Ds K H (List.replicate n xs).flatten (List.replicate n ds).flatten
  | 0 => .nil
  | n + 1 => by
    rw [List.replicate_succ, List.replicate_succ, List.flatten_cons, List.flatten_cons]
    exact h.append (ds_rep h n)
theorem ds_ne {K : PySem.W.Frag} {H : Hp} {xs : List V} {ds : List PyData} (h : Ds K H xs ds) (e : ds ≠ []) : xs ≠ [] := fun z => by
  subst z
  cases h
  exact e rfl
open Classical in
theorem r2_mul : R2v K (rMul K) pMul := by
  intro ms C H x y a b z Q rc h1 h2 e q
  unfold pMul at e
  split at e
  · rename_i i e1
    obtain ⟨j, e2, e⟩ := bnd e
    have e : (if CMul i j then some (PyData.int (i * j)) else none) = some z := e
    by_cases hc : CMul i j
    · rw [if_pos hc] at e
      cases e
      exact .inl ⟨i, j, asI_some h1 e1, asI_some h2 e2, hc, q _ H (Same.refl H) (.int _)⟩
    · rw [if_neg hc] at e
      cases e
  · obtain ⟨k, e2, e⟩ := bnd e
    have hk := asI_some h2 e2
    split at e
    · rename_i xs e1
      by_cases hc : xs ≠ [] ∧ 2 ≤ k ∧ k ≤ 1000 ∧ xs.length ≤ 1000
      · rw [if_pos hc] at e
        cases e
        obtain ⟨p, us, rfl, hp, hpd⟩ := asT_some h1 e1
        exact .inr (.inl ⟨p, k, us, rfl, hk, sameT offs_same hp, ds_ne hpd hc.1, hc.2.1, hc.2.2.1, by rw [hpd.length]; exact hc.2.2.2, fun t ht => q _ _ (new_same _ ht) (made_ms rc ht (ds_rep hpd _))⟩)
      · rw [if_neg hc] at e
        cases e
    · obtain ⟨xs, e1, e⟩ := bnd e
      have e : (if 0 ≤ k ∧ k ≤ 1000 ∧ xs.length ≤ 1000 then some (PyData.list (List.replicate k.toNat xs).flatten) else none) = some z := e
      by_cases hc : 0 ≤ k ∧ k ≤ 1000 ∧ xs.length ≤ 1000
      · rw [if_pos hc] at e
        cases e
        obtain ⟨p, us, rfl, hp, hpd⟩ := h1.listM rc e1
        have l1 := hpd.length
        have lm : us.length * k.toNat ≤ 1000 * 1000 := Nat.mul_le_mul (by omega) (by omega)
        exact .inr (.inr ⟨p, k, us, rfl, hk, hp, by omega, by omega, Nat.le_trans lm (by decide), fun t ht => q _ _ (new_same _ ht) (made_msL rc ht (ds_rep hpd _))⟩)
      · rw [if_neg hc] at e
        cases e
/-- x[i] -/
def pIx (C : Cells) (a b : AV) : Option PyData := (asI b).bind fun k => match asS a with
  | some s => if s.length ≤ 100000 then (atI s.cps.toList k).bind fun c => some (.str ⟨#[c]⟩) else none
  | none => (a.items C).bind fun ds => atI ds k
theorem ds_at {H : Hp} {xs : List V} {ds : List PyData} {i : Int} {d : PyData} (h : Ds K H xs ds) (e : atI ds i = some d) : ∃ v, atI xs i = some v ∧ Dd K H v d := by
  unfold atI at e ⊢
  rw [h.length]
  cases z : ixN ds.length i with
  | none => rw [z] at e; cases e
  | some j =>
    rw [z] at e
    obtain ⟨u, h2, h3⟩ := h.get (show ds[j]? = some d from e)
    exact ⟨u, h2, h3⟩
theorem r2_ix : R2v K (rIx K) pIx := by
  intro ms C H x y a b z Q rc h1 h2 e q
  obtain ⟨k, e2, e⟩ := bnd e
  have hk := asI_some h2 e2
  split at e
  · rename_i s e1
    by_cases hc : s.length ≤ 100000
    · rw [if_pos hc] at e
      obtain ⟨c, e3, e⟩ := bnd e
      cases e
      exact .inr (.inr ⟨s, k, c, asS_some h1 e1, hk, hundred hc, e3, q _ H (Same.refl H) (.str _)⟩)
    · rw [if_neg hc] at e
      cases e
  · obtain ⟨ds, e1, e⟩ := bnd e
    obtain ⟨p, xs, rfl, hs, hd⟩ := h1.items rc e1
    obtain ⟨v, e3, hv⟩ := ds_at hd e
    rcases hs with hs | hs
    · exact .inl ⟨p, xs, k, v, rfl, hk, hs, e3, q _ H (Same.refl H) hv⟩
    · exact .inr (.inl ⟨p, xs, k, v, rfl, hk, hs, e3, q _ H (Same.refl H) hv⟩)
/-- x[i:j] -/
def pSl (C : Cells) (a : AV) (lo hi : Option Int) : Option PyData := match asS a with
  | some s => if s.length ≤ 100000 then some (.str (cutS s lo hi)) else none
  | none => match asT a with
    | some ds => some (.tuple (Z.cutD ds lo hi))
    | none => (itemsL C a).bind fun ds => some (.list (Z.cutD ds lo hi))
theorem ds_cut {H : Hp} {xs : List V} {ds : List PyData} {lo hi : Option Int} (h : Ds K H xs ds) : Ds K H (cutV xs lo hi) (Z.cutD ds lo hi) := by
  unfold cutV Z.cutD
  rw [h.length]
  exact (h.drop _).take _
theorem rs_sl : Rsv K (rSlAny K) pSl := by
  intro ms C H x a lo hi z Q rc h1 e q
  unfold pSl at e
  split at e
  · rename_i s e1
    by_cases hc : s.length ≤ 100000
    · rw [if_pos hc] at e
      cases e
      exact .inr (.inr ⟨s, asS_some h1 e1, hundred hc, q _ H (Same.refl H) (.str _)⟩)
    · rw [if_neg hc] at e
      cases e
  · split at e
    · rename_i ds e1
      cases e
      obtain ⟨p, xs, rfl, hp, hpd⟩ := asT_some h1 e1
      have hcut := ds_cut (lo := lo) (hi := hi) hpd
      refine .inl ⟨p, xs, rfl, sameT offs_same hp, fun ⟨f1, f2⟩ => q _ H (Same.refl H) ?_, fun _ t ht => q _ _ (new_same _ ht) (made_ms rc ht hcut)⟩
      have e : cutV xs lo hi = xs := by
        unfold cutV
        rw [f1, f2, List.drop_zero, Nat.sub_zero]
        exact List.take_of_length_le (Nat.le_refl _)
      rw [e] at hcut
      exact .tup hp hcut
    · obtain ⟨ds, e1, e⟩ := bnd e
      cases e
      obtain ⟨p, xs, rfl, hp, hpd⟩ := h1.listM rc e1
      exact .inr (.inl ⟨p, xs, rfl, hp.seq, fun t ht => q _ _ (new_same _ ht) (made_msL rc ht (ds_cut hpd))⟩)
/-- == -/
def scalD : PyData → PyData → Bool
  | .none, .none => true | .none, .int _ => true | .int _, .none => true | .none, .bool _ => true | .bool _, .none => true | .none, .str _ => true | .str _, .none => true
  | .int _, .int _ => true | .bool _, .bool _ => true | .str _, .str _ => true
  | _, _ => false
def eqS : PyData → PyData → Bool
  | .none, .none => true
  | .int i, .int j => decide (i = j)
  | .bool i, .bool j => decide (i = j)
  | .str i, .str j => decide (i = j)
  | _, _ => false
def eqD (x y : PyData) : Option Bool := if scalD x y = true then some (eqS x y) else if SeqAt.shaped x && SeqAt.shaped y then some (PyData.eqv x y) else none
def pEq (C : Cells) (a b : AV) : Option PyData := (a.data C).bind fun x => (b.data C).bind fun y => (eqD x y).bind fun r => some (.bool r)
def pNe (C : Cells) (a b : AV) : Option PyData := (a.data C).bind fun x => (b.data C).bind fun y => (eqD x y).bind fun r => some (.bool (!r))
theorem scal_ok {H : Hp} {v u : V} {x y : PyData} (h1 : Dd K H v x) (h2 : Dd K H u y) (e : scalD x y = true) : scal v u = true ∧ decide (v = u) = eqS x y := by
  cases h1 <;> cases h2 <;> first | (cases e; done) | exact ⟨rfl, by simp [eqS]⟩ | exact ⟨rfl, by simp [eqS]; rfl⟩
theorem dp_shaped {H : Hp} {v : V} {x : PyData} (h : Dd K H v x) (e : SeqAt.shaped x = true) : Dp K H v x := Dd.dp _ _ (PyData.hasDict_of_canLay _ (SeqAt.canLay_of_shaped e)) h
theorem r2_eq : R2v K (rEqA K) pEq := by
  intro ms C H x y a b z Q rc h1 h2 e q
  obtain ⟨d1, e1, e⟩ := bnd e
  obtain ⟨d2, e2, e⟩ := bnd e
  obtain ⟨r, e3, e⟩ := bnd e
  cases e
  have g1 := h1.full rc e1
  have g2 := h2.full rc e2
  unfold eqD at e3
  split at e3
  · rename_i hs
    cases e3
    obtain ⟨k1, k2⟩ := scal_ok g1 g2 hs
    exact .inl ⟨k1, by rw [k2]; exact q _ H (Same.refl H) (.bl _)⟩
  · split at e3
    · rename_i hs
      cases e3
      rw [Bool.and_eq_true] at hs
      exact .inr ⟨d1, d2, dp_shaped g1 hs.1, dp_shaped g2 hs.2, hs.1, hs.2, q _ H (Same.refl H) (.bl _)⟩
    · cases e3
theorem r2_ne : R2v K (rNeA K) pNe := by
  intro ms C H x y a b z Q rc h1 h2 e q
  obtain ⟨d1, e1, e⟩ := bnd e
  obtain ⟨d2, e2, e⟩ := bnd e
  obtain ⟨r, e3, e⟩ := bnd e
  cases e
  have g1 := h1.full rc e1
  have g2 := h2.full rc e2
  unfold eqD at e3
  split at e3
  · rename_i hs
    cases e3
    obtain ⟨k1, k2⟩ := scal_ok g1 g2 hs
    exact .inl ⟨k1, by rw [k2]; exact q _ H (Same.refl H) (.bl _)⟩
  · split at e3
    · rename_i hs
      cases e3
      rw [Bool.and_eq_true] at hs
      exact .inr ⟨d1, d2, dp_shaped g1 hs.1, dp_shaped g2 hs.2, hs.1, hs.2, q _ H (Same.refl H) (.bl _)⟩
    · cases e3
open Classical in
noncomputable def ltP (x y : PyData) : Option Bool := if h : ∃ (k : DK) (p q : PV), x = encP p ∧ y = encP q ∧ hasP k p ∧ hasP k q ∧ pd p ≤ 30 ∧ pd q ≤ 30 then some (PV.lt h.choose_spec.choose h.choose_spec.choose_spec.choose) else none
noncomputable def pLt (C : Cells) (a b : AV) : Option PyData := match asI a with
  | some i => (asI b).bind fun j => some (.bool (decide (i < j)))
  | none => match asS a with
    | some i => (asS b).bind fun j => some (.bool (decide (i.cps.toList < j.cps.toList)))
    | none => (a.data C).bind fun x => (b.data C).bind fun y => (ltP x y).bind fun r => some (.bool r)
open Classical in
theorem r2_lt : R2v K (rLt K) pLt := by
  intro ms C H x y a b z Q rc h1 h2 e q
  unfold pLt at e
  split at e
  · rename_i i e1
    obtain ⟨j, e2, e⟩ := bnd e
    cases e
    exact .inl ⟨i, j, asI_some h1 e1, asI_some h2 e2, q _ H (Same.refl H) (.bl _)⟩
  · split at e
    · rename_i i e1
      obtain ⟨j, e2, e⟩ := bnd e
      cases e
      exact .inr (.inl ⟨i, j, asS_some h1 e1, asS_some h2 e2, q _ H (Same.refl H) (.bl _)⟩)
    · obtain ⟨d1, e1, e⟩ := bnd e
      obtain ⟨d2, e2, e⟩ := bnd e
      obtain ⟨r, e3, e⟩ := bnd e
      cases e
      have g1 := h1.full rc e1
      have g2 := h2.full rc e2
      unfold ltP at e3
      split at e3
      · rename_i hx
        cases e3
        obtain ⟨k1, k2, k3, k4, k5, k6⟩ := hx.choose_spec.choose_spec.choose_spec
        generalize hx.choose_spec.choose_spec.choose = q2 at *
        generalize hx.choose_spec.choose = p2 at *
        subst k1 k2
        exact .inr (.inr (r_ltP g1 g2 k3 k4 k5 k6 (q _ H (Same.refl H) (.bl _))))
      · cases e3
/-- in -/
def toV : PyData → Option V
  | .none => some .non
  | .bool b => some (.bl b)
  | .int i => some (.int i)
  | .str s => some (.str s)
  | _ => none
def toVs : List PyData → Option (List V)
  | [] => some []
  | d :: ds => (toV d).bind fun v => (toVs ds).bind fun vs => some (v :: vs)
theorem toV_some {H : Hp} {u v : V} {d : PyData} (h : Dd K H u d) (e : toV d = some v) : u = v ∧ flatV v = true := by
  cases h <;> first | (cases e; exact ⟨rfl, rfl⟩) | (cases e; done)
theorem toVs_some {H : Hp} : ∀ {us vs : List V} {ds : List PyData}, Ds K H us ds → toVs ds = some vs → us = vs ∧ vs.all flatV = true
  | _, _, _, .nil, e => by cases e; exact ⟨rfl, rfl⟩
  | _, _, _, .cons h r, e => by
    obtain ⟨v, e1, e⟩ := bnd e
    obtain ⟨vs, e2, e⟩ := bnd e
    cases e
    obtain ⟨rfl, f1⟩ := toV_some h e1
    obtain ⟨rfl, f2⟩ := toVs_some r e2
    exact ⟨rfl, by rw [List.all_cons, f1, f2]; rfl⟩
def pIn (neg : Bool) (C : Cells) (a b : AV) : Option PyData := (a.data C).bind fun x => (toV x).bind fun v => (b.items C).bind fun ds => (toVs ds).bind fun vs => some (.bool (if neg then !inV v vs else inV v vs))
theorem r2_in {neg : Bool} : R2v K (rIn K neg) (pIn neg) := by
  intro ms C H x y a b z Q rc h1 h2 e q
  obtain ⟨d, e1, e⟩ := bnd e
  obtain ⟨v, e2, e⟩ := bnd e
  obtain ⟨ds, e3, e⟩ := bnd e
  obtain ⟨vs, e4, e⟩ := bnd e
  cases e
  obtain ⟨rfl, f1⟩ := toV_some (h1.full rc e1) e2
  obtain ⟨p, xs, rfl, hs, hd⟩ := h2.items rc e3
  obtain ⟨rfl, f2⟩ := toVs_some hd e4
  exact ⟨p, xs, rfl, hs, f1, f2, q _ H (Same.refl H) (.bl _)⟩
def p1 (f : Cells → AV → Option PyData) (C : Cells) : List AV → Option PyData
  | [a] => f C a
  | _ => none
def pLen : Cells → List AV → Option PyData := p1 fun C a => match asS a with
  | some s => if s.length ≤ 100000 then some (.int (s.length : Nat)) else none
  | none => (a.items C).bind fun ds => some (.int (ds.length : Nat))
theorem rn1 {f : Cells → AV → Option PyData} {r : List V → Hp → VK → Prop} (h : ∀ (ms : Ms) (C : Cells) (H : Hp) (x : V) (a : AV) (z : PyData) (Q : VK), RepC K ms C H → RV K ms H x a → f C a = some z → (∀ v H', Same H H' → Dd K (offs ms H') v z → Q v H') → r [x] H Q) : Rnv K r (p1 f) := by
  intro ms C H xs as z Q rc rv e q
  match as, rv, e with
  | [a], .cons h1 .nil, e => exact h ms C H _ a z Q rc h1 e q
theorem rn_len : Rnv K (rLen K) pLen := rn1 fun ms C H x a z Q rc h1 e q => by
  split at e
  · rename_i s e1
    by_cases hc : s.length ≤ 100000
    · rw [if_pos hc] at e
      cases e
      cases asS_some h1 e1
      exact ⟨_, _, rfl, ⟨hundred hc, rfl⟩, q _ H (Same.refl H) (.int _)⟩
    · rw [if_neg hc] at e
      cases e
  · obtain ⟨ds, e1, e⟩ := bnd e
    cases e
    obtain ⟨p, xs, rfl, hs, hd⟩ := h1.items rc e1
    refine ⟨_, xs.length, rfl, ?_, by rw [hd.length]; exact q _ H (Same.refl H) (.int _)⟩
    rcases hs with hs | hs
    · exact .inl ⟨xs, hs, rfl⟩
    · exact .inr ⟨xs, hs, rfl⟩
def pInt : Cells → List AV → Option PyData := p1 fun C a => match asI a with
  | some i => some (.int i)
  | none => (asB a).bind fun b => some (.int (if b = true then 1 else 0))
theorem rn_int : Rnv K wInt pInt := rn1 fun ms C H x a z Q rc h1 e q => by
  split at e
  · rename_i i e1
    cases e
    cases asI_some h1 e1
    exact .inl ⟨i, rfl, q _ H (Same.refl H) (.int _)⟩
  · obtain ⟨b, e1, e⟩ := bnd e
    cases e
    cases asB_some h1 e1
    exact .inr ⟨b, rfl, q _ H (Same.refl H) (.int _)⟩
def pAbs : Cells → List AV → Option PyData := p1 fun C a => (asI a).bind fun i => some (.int (if i < 0 then -i else i))
theorem rn_abs : Rnv K wAbs pAbs := rn1 fun ms C H x a z Q rc h1 e q => by
  obtain ⟨i, e1, e⟩ := bnd e
  cases e
  cases asI_some h1 e1
  exact ⟨i, rfl, q _ H (Same.refl H) (.int _)⟩
def p2 (f : Cells → AV → AV → Option PyData) (C : Cells) : List AV → Option PyData
  | [a, b] => f C a b
  | _ => none
theorem rn2 {f : Cells → AV → AV → Option PyData} {r : List V → Hp → VK → Prop} (h : ∀ (ms : Ms) (C : Cells) (H : Hp) (x y : V) (a b : AV) (z : PyData) (Q : VK), RepC K ms C H → RV K ms H x a → RV K ms H y b → f C a b = some z → (∀ v H', Same H H' → Dd K (offs ms H') v z → Q v H') → r [x, y] H Q) : Rnv K r (p2 f) := by
  intro ms C H xs as z Q rc rv e q
  match as, rv, e with
  | [a, b], .cons h1 (.cons h2 .nil), e => exact h ms C H _ _ a b z Q rc h1 h2 e q
open Classical in
noncomputable def pDivmod : Cells → List AV → Option PyData := p2 fun C a b => (asI a).bind fun i => (asI b).bind fun j => if CDiv i j then some (.tuple [.int (i / j), .int (i % j)]) else none
def pMax : Cells → List AV → Option PyData := p2 fun C a b => (asI a).bind fun i => (asI b).bind fun j => some (.int (if j > i then j else i))
theorem rn_max : Rnv K wMax pMax := rn2 fun ms C H x y a b z Q rc h1 h2 e q => by
  obtain ⟨i, e1, e⟩ := bnd e
  obtain ⟨j, e2, e⟩ := bnd e
  cases e
  cases asI_some h1 e1
  cases asI_some h2 e2
  exact ⟨i, j, rfl, q _ H (Same.refl H) (.int _)⟩
def pMin : Cells → List AV → Option PyData := p2 fun C a b => (asI a).bind fun i => (asI b).bind fun j => some (.int (if j < i then j else i))
theorem rn_min : Rnv K wMin pMin := rn2 fun ms C H x y a b z Q rc h1 h2 e q => by
  obtain ⟨i, e1, e⟩ := bnd e
  obtain ⟨j, e2, e⟩ := bnd e
  cases e
  cases asI_some h1 e1
  cases asI_some h2 e2
  exact ⟨i, j, rfl, q _ H (Same.refl H) (.int _)⟩
def pRepr : Cells → List AV → Option PyData := p1 fun C a => (a.data C).bind fun x => if x.showable = true ∧ x.hasDict = false ∧ x.depth ≤ 64 ∧ x.shown.length ≤ sizeLine then some (.str x.shown) else none
theorem rn_repr : Rnv K (rRepr K) pRepr := rn1 fun ms C H x a z Q rc h1 e q => by
  obtain ⟨d, e1, e⟩ := bnd e
  have e : (if d.showable = true ∧ d.hasDict = false ∧ d.depth ≤ 64 ∧ d.shown.length ≤ sizeLine then some (PyData.str d.shown) else none) = some z := e
  by_cases hc : d.showable = true ∧ d.hasDict = false ∧ d.depth ≤ 64 ∧ d.shown.length ≤ sizeLine
  · rw [if_pos hc] at e
    cases e
    exact ⟨x, d, rfl, h1.full rc e1, hc.1, hc.2.1, hc.2.2.1, hc.2.2.2, q _ H (Same.refl H) (.str _)⟩
  · rw [if_neg hc] at e
    cases e
def pTuple : Cells → List AV → Option PyData := p1 fun C a => (a.items C).bind fun ds => some (.tuple ds)
theorem rn_tuple : Rnv K (wTupOf K) pTuple := rn1 fun ms C H x a z Q rc h1 e q => by
  match a, e, h1 with
  | .d (.tuple ds), e, h1 =>
    cases e
    obtain ⟨p, xs, rfl, hp, hpd⟩ := Dd.seqT h1
    exact ⟨p, xs, rfl, .inr ⟨sameT offs_same hp, q _ H (Same.refl H) (.tup hp hpd)⟩⟩
  | .d (.list ds), e, h1 =>
    cases e
    obtain ⟨p, xs, rfl, hs, hd⟩ := h1.listM rc (show itemsL C (.d (.list ds)) = some ds from rfl)
    exact ⟨p, xs, rfl, .inl ⟨hs.seq, fun l hl => q _ _ (new_same _ hl) (made_ms rc hl hd)⟩⟩
  | .c j, e, h1 =>
    obtain ⟨ds, e1, e⟩ := bnd (show (C[j]?.join).bind _ = _ from e)
    cases e
    obtain ⟨p, xs, rfl, hs, hd⟩ := h1.listM rc (show itemsL C (.c j) = some ds from e1)
    exact ⟨p, xs, rfl, .inl ⟨hs.seq, fun l hl => q _ _ (new_same _ hl) (made_ms rc hl hd)⟩⟩
def pList : Cells → List AV → Option PyData := p1 fun C a => (a.items C).bind fun ds => some (.list ds)
theorem rn_list : Rnv K (wListOf K) pList := rn1 fun ms C H x a z Q rc h1 e q => by
  obtain ⟨ds, e1, e⟩ := bnd e
  cases e
  obtain ⟨p, xs, rfl, hs, hd⟩ := h1.items rc e1
  exact ⟨p, xs, rfl, hs, fun l hl => q _ _ (new_same _ hl) (made_msL rc hl hd)⟩
def pIsi : Cells → List AV → Option PyData := p2 fun C a b => match b with
  | .t n => (a.data C).bind fun x => (kitB (tyn x) n).bind fun r => some (.bool r)
  | _ => none
theorem rn_isi : Rnv K (rIsi K) pIsi := rn2 fun ms C H x y a b z Q rc h1 h2 e q => by
  match b, e, h2 with
  | .t n, e, h2 =>
    obtain ⟨d, e1, e⟩ := bnd (show (a.data C).bind _ = _ from e)
    obtain ⟨r, e2, e⟩ := bnd e
    cases e
    cases (show y = .ty n from h2)
    exact r_isi (h1.full rc e1) e2 (q _ H (Same.refl H) (.bl _))
end
end M
namespace M
open PySem PySem.Spec PyProof.Rows L2 Z
section
variable {K : PySem.W.Frag} {ta tb te to : TE} {ma mb me mo : EM} {T : TA} {mA : AM}
def asC : AV → Option Nat
  | .c j => some j
  | _ => none
theorem asC_some {av : AV} {j : Nat} (e : asC av = some j) : av = .c j := by
  match av, e with
  | .c i, e => cases e; rfl
def asD : AV → Option PyData
  | .d x => some x
  | _ => none
theorem asD_some {av : AV} {x : PyData} (e : asD av = some x) : av = .d x := by
  match av, e with
  | .d i, e => cases e; rfl
def one1 : List AV → Option AV
  | [a] => some a
  | _ => none
theorem one1_some {ms : Ms} {H : Hp} {vs : List V} {as : List AV} {a : AV} (r : RVs K ms H vs as) (e : one1 as = some a) : ∃ v, vs = [v] ∧ RV K ms H v a := by
  match as, e, r with
  | [b], e, .cons h .nil => cases e; exact ⟨_, rfl, h⟩
def small (ds : List PyData) : Option Unit := if ds.length ≤ 1000 then some () else none
theorem small_some {ds : List PyData} {u : Unit} (h : small ds = some u) : ds.length ≤ 1000 := by
  unfold small at h
  split at h
  · assumption
  · cases h
def mApp (mo : EM) (mA : AM) : EM := fun env C => (mo env C).bind fun o => (asC o.1).bind fun j => o.2[j]?.join.bind fun _ => (mA env o.2).bind fun r => (one1 r.1).bind fun a => (asD a).bind fun z => r.2[j]?.join.bind fun ds => (small ds).bind fun _ => some (.d .none, r.2.set j (some (ds ++ [z])))
theorem ev_app (ho : Ev K to mo) (hA : Av K T mA) : Ev K (tBM K "list" rAppend to T) (mApp mo mA) := by
  intro ms C σ env H Q av C' rc rs h q
  obtain ⟨⟨o, C1⟩, h1, h⟩ := bnd h
  obtain ⟨j, e1, h⟩ := bnd h
  obtain ⟨ds0, e2, h⟩ := bnd h
  obtain ⟨⟨as, C2⟩, h2, h⟩ := bnd h
  obtain ⟨a, e3, h⟩ := bnd h
  obtain ⟨z, e4, h⟩ := bnd h
  obtain ⟨ds, e5, h⟩ := bnd h
  obtain ⟨_, e6, h⟩ := bnd h
  cases h
  cases asC_some e1
  cases asD_some e4
  refine ho ms C σ env H _ _ C1 rc rs h1 fun x ms1 H1 x1 rc1 rv1 => ?_
  obtain ⟨p, xs0, rfl, _, hx0, _⟩ := rv1.cell rc1 (join_some e2)
  refine ⟨.inl ⟨rfl, xs0, SqL.of hx0⟩, ?_⟩
  refine hA ms1 C1 σ env H1 _ _ C2 rc1 (rs.ext x1) h2 fun vs ms2 H2 x2 rc2 rv2 => ?_
  obtain ⟨p', xs, ep, hb, hx, hd⟩ := (rv1.ext x2).cell rc2 (join_some e5)
  cases ep
  obtain ⟨v, rfl, hv⟩ := one1_some rv2 e3
  obtain ⟨p1, p2⟩ := put rc2 hb hx (hd.append (.cons hv .nil))
  exact ⟨p, xs, v, rfl, rfl, hx, small1000 (by rw [hd.length]; exact small_some e6), q _ ms2 _ ((x1.trans x2).trans p1) p2 .non⟩
def idx (i : Int) : Option Unit := if 0 ≤ i ∧ i ≤ 1000000 then some () else none
noncomputable def iA (me : EM) : IM := fun env C => (me env C).bind fun r => match asT r.1 with
  | some ds => some (ds.map AV.d, fun _ => true, r.2)
  | none => match asC r.1 with
    | some j => r.2[j]?.join.bind fun ds => some (ds.map AV.d, keepC j ds, r.2)
    | none => (itemsL r.2 r.1).bind fun ds => some (ds.map AV.d, fun _ => true, r.2)
theorem iv_any (h : Ev K te me) : Iv K (iAny K te) (iA me) := by
  intro ms C σ env H R items keep C' rc rs e q
  obtain ⟨⟨a, C1⟩, e1, e⟩ := bnd e
  cases a with
  | d x =>
    cases x with
    | tuple ds =>
      cases e
      refine .inl (h ms C σ env H _ _ _ rc rs e1 fun v ms1 H1 x1 rc1 rv1 => ?_)
      obtain ⟨p, xs, rfl, hx, hd⟩ := Dd.seqT rv1
      exact ⟨p, rfl, ⟨xs, sameT offs_same hx⟩, q _ ms1 H1 x1 rc1 (itT_ok hx hd)⟩
    | list ds =>
      cases e
      refine .inr (h ms C σ env H _ _ _ rc rs e1 fun v ms1 H1 x1 rc1 rv1 => ?_)
      cases (show Dd K (offs ms1 H1) v (.list ds) from rv1) with
      | lst hs ha => exact ⟨_, rfl, ⟨_, offs_same.seq hs.seq⟩, q _ ms1 H1 x1 rc1 (itL_ok hs.seq ha)⟩
    | _ => cases e
  | c j =>
    obtain ⟨ds, e2, e⟩ := bnd e
    cases e
    refine .inr (h ms C σ env H _ _ _ rc rs e1 fun v ms1 H1 x1 rc1 rv1 => ?_)
    obtain ⟨p, xs, rfl, hb, hx, hd⟩ := rv1.cell rc1 (join_some e2)
    exact ⟨p, rfl, ⟨xs, SqL.of hx⟩, q _ ms1 H1 x1 rc1 (itC_ok hb)⟩
  | t n => cases e
def KT (K : PySem.W.Frag) (a : Addr) (tab : List (Str × PyData)) : Prop := ∀ z : Str, (tab.lookup z = none ∧ PySem.W.nsIn K a z = some none) ∨ ∃ x u v, tab.lookup z = some x ∧ PySem.W.nsIn K a z = some (some u) ∧ RelV v u ∧ ∀ H, Dd K H v x
def mTab (tab : List (Str × PyData)) (me : EM) : EM := mUn (fun _ a => (asS a).bind fun z => tab.lookup z) me
theorem ev_tab {a : Addr} {tab : List (Str × PyData)} (G : KT K a tab) (he : Ev K te me) : Ev K (tOp (fun x y H Q => ∃ (z : Str) (u0 : Value) (v0 : V), x = .ref a ∧ y = .str z ∧ PySem.W.nsIn K a z = some (some u0) ∧ RelV v0 u0 ∧ Q v0 H) (tC (.ref a)) te) (mTab tab me) := by
  intro ms C σ env H Q av C' rc rs h q
  obtain ⟨⟨o, C1⟩, h1, h⟩ := bnd h
  obtain ⟨x, h2, h⟩ := bnd h
  obtain ⟨z, h3, h2⟩ := bnd h2
  cases h
  refine he ms C σ env H _ o _ rc rs h1 fun y ms1 H1 x1 rc1 rv1 => ?_
  rcases G z with ⟨g1, _⟩ | ⟨x', u, v, g1, g2, g3, g4⟩
  · rw [h2] at g1
    cases g1
  · rw [h2] at g1
    cases g1
    exact ⟨z, u, v, rfl, asS_some rv1 h3, g2, g3, q v ms1 H1 x1 rc1 (g4 _)⟩
def mInTab (neg : Bool) (tab : List (Str × PyData)) (me : EM) : EM := mUn (fun _ a => (asS a).bind fun z => some (.bool (if neg then !(tab.lookup z).isSome else (tab.lookup z).isSome))) me
theorem ev_notInTab {a : Addr} {tab : List (Str × PyData)} (G : KT K a tab) (he : Ev K te me) : Ev K (tOp (fun x y H Q => ∃ (z : Str) (r : Option Value), x = .str z ∧ y = .ref a ∧ PySem.W.nsIn K a z = some r ∧ Q (.bl (!r.isSome)) H) te (tC (.ref a))) (mInTab true tab me) := by
  intro ms C σ env H Q av C' rc rs h q
  obtain ⟨⟨o, C1⟩, h1, h⟩ := bnd h
  obtain ⟨x, h2, h⟩ := bnd h
  obtain ⟨z, h3, h2⟩ := bnd h2
  cases h
  cases h2
  refine he ms C σ env H _ o _ rc rs h1 fun y ms1 H1 x1 rc1 rv1 => ?_
  rcases G z with ⟨g1, g2⟩ | ⟨x', u, v, g1, g2, g3, g4⟩
  · exact ⟨z, none, asS_some rv1 h3, rfl, g2, q _ ms1 H1 x1 rc1 (by rw [g1]; exact .bl _)⟩
  · exact ⟨z, some u, asS_some rv1 h3, rfl, g2, q _ ms1 H1 x1 rc1 (by rw [g1]; exact .bl _)⟩
def mCallN (np : Nat) (f : FM) (perm : List AV → List AV) (mA : AM) : EM := fun env C => (mA env C).bind fun r => if (perm r.1).length = np then f (perm r.1) r.2 else none
theorem ev_callN {np : Nat} {f : FM} {gV : List V → List V → List V} {perm : List AV → List AV} (hp : ∀ ms H zs as, RVs K ms H zs as → RVs K ms H (gV [] zs) (perm as)) (hA : Av K T mA) : Ev K (tCallN (spM K np f) gV T) (mCallN np f perm mA) := by
  intro ms C σ env H Q av C' rc rs h q
  obtain ⟨⟨as, C1⟩, h1, h⟩ := bnd h
  refine hA ms C σ env H _ as C1 rc rs h1 fun vs ms1 H1 x1 rc1 rv1 => ?_
  have rv2 := hp _ _ _ _ rv1
  by_cases hl : (perm as).length = np
  · rw [if_pos hl] at h
    refine ⟨by rw [rv2.length, hl], ms1, C1, perm as, av, C', rc1, rv2, h, fun v ms2 H2 x2 rc2 rv3 => q v ms2 H2 (x1.trans x2) rc2 rv3⟩
  · rw [if_neg hl] at h
    cases h
end
section
variable {X : Cx} {k : Nat} {f : Addr} {fd : FuncData} {ps ks : List Str} {sp : Sp} {x : Str} {p pos : Pos} {kws : List Keyword} {tk : TA} {g : List Value → List Value → List Value} {gV : List V → List V → List V}
theorem run_fnkG {pins : List (Addr × Obj)} {σ : L2.St} {H : Hp} {s : Shared} {Q : VK} {us ws : List Value} {vs zs : List V} (F : GOk X.prog X.w X.K X.mg X.base k f fd ps sp) (ng : NoG X.A) (hr : Room k X.A) (hb : KBinds X.K fd ps ks g gV)
    (I : Inv X pins σ H s) (r : Vals vs us) (rz : Vals zs ws) (h : sp (gV vs zs) H Q E0) : wpAny (model X.prog X.w) X.A (call (.ref f) us (ks.zip ws)) (EP X pins σ Q) X.xe s := by
  have r2 := hb.rel r rz
  have hl : (g us ws).length = ps.length := by rw [← r2.length]; exact F.len _ _ _ _ h
  refine wpAny_call (codeAny_mono (F.run X.A ng X.stack s H ⟨us, ks.zip ws⟩ (g us ws) (gV vs zs) Q E0 hr I.env0 (hb.to s us ws I.kIn hl) r2 h) fun r s' hq => ?_)
  match r, hq with
  | .error _, hq => exact False.elim hq
  | .ok (.ret _), hq => exact I.after hq
  | .ok .next, hq => exact False.elim hq
  | .ok .brk, hq => exact False.elim hq
  | .ok .cont, hq => exact False.elim hq
theorem pe_callNG (F : GOk X.prog X.w X.K X.mg X.base k f fd ps sp) (ng : NoG X.A) (hr : Room k X.A) (hg : Gl X x) (hm : X.mg x = some (.ref f)) (hk : PySem.W.keepIn X.K (.ref f) = true) (hb : KBinds X.K fd ps ks g gV)
    (hkw : PK X kws tk) (hall : (backToKw pos (keywordEach kws X.env)).all (·.1.isSome) = true := by rfl) (hks : (backToKw pos (keywordEach kws X.env)).filterMap (·.1) = ks := by rfl) (hdb : (x == ("__debug__" : Str)) = false := by decide)
    (hpl : ((backTo pos (starEach [] X.env)).any (·.1) || (backToKw pos (keywordEach kws X.env)).any (·.1.isNone)) = false := by rfl) : PE X (.Call (.Name x p) [] kws pos) (tCallN sp gV tk) := by
  constructor
  intro pins s σ H Q I h
  refine wpAny_Call_Name_kw (ld_glob I hg hm (PySem.W.callWith_KW0 (h₀ := X.base) I.ok.mod.kin hk hall ?_ hpl) hdb)
  refine thn (hkw.run pos pins s σ H _ I h) ?_
  rintro ws s2 ⟨zs, H2, I2, rz, q2⟩
  refine ⟨I2.kIn, ?_⟩
  rw [hks]
  exact run_fnkG F ng hr hb I2 (vs := []) .nil rz q2
end
def leave (n : Nat) (av : AV) (C : Cells) : Option (AV × Cells) := match av with
  | .c j => if j < n then some (.c j, C.take n) else some (.c j, C)
  | a => some (a, C.take n)
def mFun (np ns : Nat) (m : SM) : FM := fun as C => if as.length = np then (m (as.map some ++ List.replicate (ns - as.length) none) C).bind fun r => match r.1 with
    | .rt av => leave C.length av r.2.2
    | .nx => leave C.length (.d .none) r.2.2
    | _ => none
  else none
section
variable {P : Program} {w : World} {K : PySem.W.Frag} {mg : Str → Option Value} {base : Heap}
theorem rs_start {ms : Ms} {H : Hp} {N : List Str} {vs : List V} {as : List AV} (r : RVs K ms H vs as) : RS K ms H (L2.start N vs) (as.map some ++ List.replicate (N.length - as.length) none) := by
  have l := r.length
  refine ⟨by unfold L2.start; simp [l], fun i av e => ?_⟩
  by_cases hi : i < as.length
  · rw [List.getElem?_append_left (by simpa using hi), List.getElem?_map] at e
    have : ∀ {vs : List V} {as : List AV} {i : Nat} {av : AV}, RVs K ms H vs as → (as[i]?).map some = some (some av) → ∃ v, vs[i]? = some v ∧ RV K ms H v av := by
      intro vs as i av r
      induction r generalizing i with
      | nil => intro e; cases e
      | cons h r ih =>
        intro e
        cases i with
        | zero =>
          cases e
          exact ⟨_, rfl, h⟩
        | succ i => exact ih e
    obtain ⟨v, e1, hv⟩ := this r e
    refine ⟨v, ?_, hv⟩
    unfold L2.start
    rw [List.getElem?_append_left (by simpa [l] using hi), List.getElem?_map, e1]
    rfl
  · rw [List.getElem?_append_right (by simpa using hi)] at e
    have z := List.mem_of_getElem? e
    rw [List.mem_replicate] at z
    cases z.2
theorem leave_ok {ms ms' : Ms} {H H' : Hp} {C C' C2 : Cells} {av av' : AV} (hn : C.length = ms.length) (x : Ext ms ms' H H') (rc : RepC K ms' C' H') (e : leave C.length av C' = some (av', C2)) :
    ∃ ms2, Ext ms ms2 H H' ∧ RepC K ms2 C2 H' ∧ ∀ v, RV K ms' H' v av → RV K ms2 H' v av' := by
  obtain ⟨g1, g2⟩ := drop_new C.length rc
  have x2 := x.drop (n := C.length) hn
  cases av with
  | d y =>
    cases e
    exact ⟨_, x2, g1, fun v h => Dd.up h g2⟩
  | t y =>
    cases e
    exact ⟨_, x2, g1, fun v h => h⟩
  | c j =>
    have e : (if j < C.length then some (AV.c j, C'.take C.length) else some (AV.c j, C')) = some (av', C2) := e
    by_cases hj : j < C.length
    · rw [if_pos hj] at e
      cases e
      refine ⟨_, x2, g1, fun v h => ?_⟩
      obtain ⟨a, rfl, q⟩ := h
      exact ⟨a, rfl, by rw [List.getElem?_take_of_lt hj]; exact q⟩
    · rw [if_neg hj] at e
      cases e
      exact ⟨ms', x, rc, fun v h => h⟩
theorem mkM {x qual : Str} {st : Stmt} {f : Addr} {fd : FuncData} {N ps : List Str} {k np ns : Nat} {m : SM} (F : Fun K x qual st f fd) (S : FnScope N ps (defScope st)) (e1 : np = ps.length) (e2 : ns = N.length)
    (body : ∀ (cdv : Value) (A : Around) (outer : List PySem.Env) (s : Shared) (H : Hp) (E : XK), NoG (A.deeper (envOfC qual (defScope st) s.heap.objs.size f cdv)) → Room k (A.deeper (envOfC qual (defScope st) s.heap.objs.size f cdv)) →
      ∃ t, PSs (cxOf CX0 P w K mg base N qual (defScope st) f cdv A outer s H E).nox (defBody st) t ∧ Sv K t m) : GOk P w K mg base (k + 1) f fd ps (spM K np (mFun np ns m)) := by
  subst e1 e2
  refine GOk.mk' F S (fun vs H Q E h => h.1) (fun cdv A outer s H vs Q E ng hr h => ?_)
  obtain ⟨t, ht, hv⟩ := body cdv A outer s H E ng hr
  obtain ⟨hl, ms, C, as, av, C', rc, rv, e, q⟩ := h
  refine ⟨t, ht, ?_⟩
  unfold mFun at e
  rw [if_pos (by rw [← rv.length]; exact hl)] at e
  obtain ⟨⟨fl, env1, C1⟩, e3, e⟩ := bnd e
  refine hv ms C _ _ H _ fl env1 C1 rc (rs_start rv) e3 fun σ1 ms1 H1 x1 rc1 rs1 => ?_
  cases fl with
  | nx =>
    obtain ⟨ms2, g1, g2, g3⟩ := leave_ok rc.len.symm x1 rc1 e
    exact q _ ms2 H1 g1 g2 (g3 _ .non)
  | rt a =>
    intro v h
    obtain ⟨ms2, g1, g2, g3⟩ := leave_ok rc.len.symm x1 rc1 e
    exact q _ ms2 H1 g1 g2 (g3 _ h)
  | bk => cases e
  | ct => cases e
theorem none_G {f : Addr} {fd : FuncData} {ps : List Str} {k : Nat} : GOk P w K mg base k f fd ps (spM K ps.length fun _ _ => none) :=
  ⟨fun vs H Q E h => h.1, fun A ng outer s H args us vs Q E _ _ _ _ h => by
    obtain ⟨_, ms, C, as, av, C', _, _, e, _⟩ := h
    cases e⟩
/-- the law's own promise, out of what its mirror tells of each script -/
theorem law_sp {m : FM} (h : ∀ ns : List Int, ns.length ≤ 63 → ∃ C', m [.d (.list (ns.map PyData.int))] [] = some (.d (.bool true), C')) (K : PySem.W.Frag) (G : Hp) (a : Addr) (ns : List Int) (hl : ns.length ≤ 63) (hS : SqM K G a (ns.map V.int)) :
    spM K 1 m [.ref a] G (fun v _ => v = .bl true) E0 := by
  obtain ⟨C', e⟩ := h ns hl
  have e0 : offs [] G = G := by
    funext b
    exact offs_out List.not_mem_nil
  have d0 : RV K [] G (.ref a) (.d (.list (ns.map PyData.int))) := by
    show Dd K (offs [] G) _ _
    rw [e0]
    exact .lst hS (Ds.ints ns)
  exact ⟨rfl, [], [], _, _, C', ⟨rfl, fun i j a e => (by cases e), fun j a e => (by cases e), fun j e => (by cases e)⟩, .cons d0 .nil, e, fun v ms' H' _ _ h => Dd.isBl h⟩
end
end M
namespace M
open PySem PySem.Spec PyProof.Rows L2 Z
section
variable {K : PySem.W.Frag}
def pick {α : Type} (idx : List Nat) (m : Nat) (l : List α) : List α := if l.length = m then idx.filterMap (fun i => l[i]?) else []
abbrev pickA (idx : List Nat) (m : Nat) : List AV → List AV := pick idx m
def pickG {α : Type} (idx : List Nat) (m : Nat) (us ws : List α) : List α := match us with
  | [] => pick idx m ws
  | _ => []
theorem RVs.get {ms : Ms} {H : Hp} : ∀ {vs : List V} {as : List AV} (i : Nat), RVs K ms H vs as → (vs[i]? = none ∧ as[i]? = none) ∨ ∃ v a, vs[i]? = some v ∧ as[i]? = some a ∧ RV K ms H v a
  | _, _, _, .nil => .inl ⟨by simp, by simp⟩
  | _, _, 0, .cons h _ => .inr ⟨_, _, rfl, rfl, h⟩
  | _, _, i + 1, .cons _ r => by
    rcases RVs.get i r with ⟨h1, h2⟩ | ⟨v, a, h1, h2, h3⟩
    · exact .inl ⟨by simpa using h1, by simpa using h2⟩
    · exact .inr ⟨v, a, by simpa using h1, by simpa using h2, h3⟩
theorem pickA_ok (idx : List Nat) (m : Nat) (ms : Ms) (H : Hp) (zs : List V) (as : List AV) (r : RVs K ms H zs as) : RVs K ms H (pickG idx m [] zs) (pickA idx m as) := by
  show RVs K ms H (pick idx m zs) (pick idx m as)
  unfold pick
  rw [r.length]
  by_cases h : as.length = m
  · rw [if_pos h, if_pos h]
    induction idx with
    | nil => exact .nil
    | cons i idx ih =>
      rw [List.filterMap_cons, List.filterMap_cons]
      rcases r.get i with ⟨h1, h2⟩ | ⟨v, a, h1, h2, h3⟩
      · rw [h1, h2]
        exact ih
      · rw [h1, h2]
        exact .cons h3 ih
  · rw [if_neg h, if_neg h]
    exact .nil
theorem vals_get : ∀ {vs : List V} {us : List Value} (i : Nat), Vals vs us → (vs[i]? = none ∧ us[i]? = none) ∨ ∃ v a, vs[i]? = some v ∧ us[i]? = some a ∧ RelV v a
  | _, _, _, .nil => .inl ⟨by simp, by simp⟩
  | _, _, 0, .cons h _ => .inr ⟨_, _, rfl, rfl, h⟩
  | _, _, i + 1, .cons _ r => by
    rcases vals_get i r with ⟨h1, h2⟩ | ⟨v, a, h1, h2, h3⟩
    · exact .inl ⟨by simpa using h1, by simpa using h2⟩
    · exact .inr ⟨v, a, by simpa using h1, by simpa using h2, h3⟩
theorem vals_pick {idx : List Nat} {m : Nat} {vs : List V} {us : List Value} (r : Vals vs us) : Vals (pick idx m vs) (pick idx m us) := by
  unfold pick
  rw [r.length]
  by_cases h : us.length = m
  · rw [if_pos h, if_pos h]
    induction idx with
    | nil => exact .nil
    | cons i idx ih =>
      rw [List.filterMap_cons, List.filterMap_cons]
      rcases vals_get i r with ⟨h1, h2⟩ | ⟨v, a, h1, h2, h3⟩
      · rw [h1, h2]
        exact ih
      · rw [h1, h2]
        exact .cons h3 ih
  · rw [if_neg h, if_neg h]
    exact .nil
theorem kb_mk {fd : FuncData} {ps ks : List Str} {idx : List Nat} {m : Nat} (hp : 0 < ps.length) (hb : ∀ ws : List Value, ws.length = m → bindArgs fd ⟨[], ks.zip ws⟩ = pure (ps.zip (pick idx m ws))) : KBinds K fd ps ks (pickG idx m) (pickG idx m) where
  to s us ws _ hl := by
    cases us with
    | nil =>
      have hw : ws.length = m := by
        by_cases h : ws.length = m
        · exact h
        · have e : pickG idx m [] ws = [] := by
            show pick idx m ws = []
            unfold pick
            rw [if_neg h]
          rw [e] at hl
          exact absurd hl (by rw [List.length_nil]; omega)
      exact .of_eq (hb ws hw)
    | cons u us =>
      exact absurd hl (by show ¬ (0 : Nat) = _; omega)
  rel {vs us zs ws} r rz := by
    cases r with
    | nil => exact vals_pick rz
    | cons h r => exact .nil
structure CTup (K : PySem.W.Frag) (mg : Str → Option Value) (x : Str) (d : PyData) (a : Addr) : Prop where
  m : mg x = some (.ref a)
  d : ∀ H, Dd K H (.ref a) d
structure CTab (K : PySem.W.Frag) (w : World) (mg : Str → Option Value) (x : Str) (tab : List (Str × PyData)) (a : Addr) (es : Array DictEntry) (z : Nat) : Prop where
  kd : KDict K w a es z
  kt : KT K a tab
  m : mg x = some (.ref a)
theorem tupK {a : Addr} {dd : Option Addr} {its : Array Value} {n : Nat} {sl : Array (Option Value)} {xs : List V} {ds : List PyData} (l : K.lookup a = some ⟨.type "tuple", dd, .seq its n, sl⟩) (z : its.size ≤ sizeLine) (v : Vals xs its.toList) (H : Hp) (r : Ds K H xs ds) : Dd K H (.ref a) (.tuple ds) :=
  .tup (.inr ⟨_, its, n, l, rfl, rfl, z, v⟩) r
theorem srt_uniq : ∀ {xs ys : Rows}, SrtO.Srtd ltR xs → SrtO.Srtd ltR ys → xs.Perm ys → xs = ys
  | [], ys, _, _, p => (List.nil_perm.mp p).symm
  | x :: xs, [], _, _, p => absurd p.length_eq (by simp)
  | x :: xs, y :: ys, h1, h2, p => by
    have a1 := List.pairwise_cons.mp h1
    have a2 := List.pairwise_cons.mp h2
    have hx : x = y ∨ x ∈ ys := List.mem_cons.mp (p.mem_iff.mp List.mem_cons_self)
    have hy : y = x ∨ y ∈ xs := List.mem_cons.mp (p.mem_iff.mpr List.mem_cons_self)
    have e : x = y := by
      rcases hx with e | hx
      · exact e
      · rcases hy with e | hy
        · exact e.symm
        · have l1 := a1.1 y hy
          have l2 := a2.1 x hx
          rcases ltR_no.mp l1 with ⟨q1, q2⟩ | q
          · rcases ltR_no.mp l2 with ⟨q3, q4⟩ | q
            · exact Prod.ext q3 (by omega)
            · rw [q1, PV.lt_irr] at q; cases q
          · rcases ltR_no.mp l2 with ⟨q3, q4⟩ | q'
            · rw [q3, PV.lt_irr] at q; cases q
            · have := PV.lt_trans _ _ _ q q'
              rw [PV.lt_irr] at this
              cases this
    subst e
    exact congrArg _ (srt_uniq a1.2 a2.2 (List.perm_cons x |>.mp p))
def sortRows (rows : Rows) : Rows := rows.mergeSort fun a b => !ltR b a
theorem sortRows_perm (rows : Rows) : (sortRows rows).Perm rows := List.mergeSort_perm _ _
theorem sortRows_srt (rows : Rows) : SrtO.Srtd ltR (sortRows rows) := by
  have z := List.pairwise_mergeSort (le := fun a b => !ltR b a) (fun a b c h1 h2 => by
    simp only [Bool.not_eq_true'] at h1 h2 ⊢
    exact swo_row.tr _ _ _ h1 h2) (fun a b => by
    simp only [Bool.or_eq_true, Bool.not_eq_true']
    by_cases h : ltR b a = true
    · exact .inr (swo_row.asym _ _ h)
    · exact .inl (by simpa using h)) rows
  refine List.Pairwise.imp ?_ z
  intro a b h
  simpa using h
open Classical in
noncomputable def sortD (ds : List PyData) : Option PyData := if h : ∃ (rows : Rows) (k : DK), ds = rows.map encR ∧ ∀ p ∈ rows, hasP k p.1 ∧ pd p.1 ≤ 30 then some (.list ((sortRows h.choose).map encR)) else none
noncomputable def pSortR : Cells → List AV → Option PyData := p1 fun C a => (asT a).bind sortD
open Classical in
theorem rn_sortR : Rnv K (rSortR K) pSortR := rn1 fun ms C H x a z Q rc h1 e q => by
  obtain ⟨ds, e1, e⟩ := bnd e
  unfold sortD at e
  split at e
  · rename_i hx
    cases e
    obtain ⟨k, e2, hk⟩ := hx.choose_spec
    generalize hx.choose = rows at *
    subst e2
    have h2 : Dd K (offs ms H) x (.tuple (rows.map encR)) := by
      match a, e1, h1 with
      | .d (.tuple _), e1, h1 => cases e1; exact h1
    refine ⟨x, k, rows, offs ms H, rfl, offs_same, h2, hk, fun ys ws p hs hp hn hd => ?_⟩
    have : ys = sortRows rows := srt_uniq hs (sortRows_srt rows) (hp.trans (sortRows_perm rows).symm)
    subst this
    exact q _ _ (new_same _ hn) (made_msL rc hn hd)
  · cases e
end
end M
namespace PySem
open Sem (wp)
open AutoSeq1 (wpAny_loadPart')
end PySem
namespace M
open PySem PySem.Spec PyProof.Rows L2 Z
end M
namespace M
open PySem PySem.Spec PyProof.Rows L2 Z
end M
namespace M
open PySem PySem.Spec PyProof.Rows L2 Z
theorem ix_kd {X : Cx} {d : Addr} {es : Array DictEntry} {n : Nat} (D : KDict X.K X.w d es n) : IxR X (fun x y H Q => ∃ (z : Str) (u0 : Value) (v0 : V), x = .ref d ∧ y = .str z ∧ PySem.W.nsIn X.K d z = some (some u0) ∧ RelV v0 u0 ∧ Q v0 H) := by
  intro value slice pins s σ H x y v u Q I rx ry h hs
  have h' := h
  obtain ⟨z, u0, v0, rfl, rfl, e, r, q⟩ := h'
  cases rx
  exact tail_any (kd_type D I) PySem.slot_dict_getitem.lookup (op_item_kd D pins s σ H (.ref d) (.str z) _ u Q I rfl ry h) hs
def TabIs (K : PySem.W.Frag) (l : List DictEntry) (tab : List (Str × PyData)) : Prop := Paired (fun (e : DictEntry) (p : Str × PyData) => (∃ t, e.key = .str p.1 t) ∧ ∃ v, RelV v e.val ∧ ∀ H, Dd K H v p.2) l tab
theorem tab_find {K : PySem.W.Frag} : ∀ {l : List DictEntry} {ps : List (Str × PyData)} (z : Str), TabIs K l ps →
    l.any (·.refKey) = false ∧ (match l.find? (·.key.isStr z) with | some e => ∃ x v, ps.lookup z = some x ∧ RelV v e.val ∧ ∀ H, Dd K H v x | none => ps.lookup z = none)
  | [], _, z, .nil => ⟨rfl, rfl⟩
  | e :: l, (x, n) :: ps, z, .cons ⟨⟨t, h1⟩, v, h2, h3⟩ r => by
    obtain ⟨i1, i2⟩ := tab_find z r
    refine ⟨?_, ?_⟩
    · rw [List.any_cons, i1]
      unfold DictEntry.refKey
      rw [h1]
      rfl
    · rw [List.find?_cons]
      have e1 : e.key.isStr z = (x == z) := by
        rw [h1]
        rfl
      rw [e1]
      by_cases hx : x = z
      · subst hx
        rw [beq_self_eq_true]
        exact ⟨n, v, by simp [List.lookup], h2, h3⟩
      · have hb : (x == z) = false := by simpa using hx
        have hb2 : (z == x) = false := by simpa using Ne.symm hx
        rw [hb]
        have e3 : List.lookup z ((x, n) :: ps) = List.lookup z ps := by simp [List.lookup, hb2]
        rw [e3]
        exact i2
theorem tab_kt {K : PySem.W.Frag} {w : World} {a : Addr} {es : Array DictEntry} {n : Nat} {tab : List (Str × PyData)} (kd : KDict K w a es n) (is : TabIs K es.toList tab) : KT K a tab := by
  intro z
  obtain ⟨h1, h2⟩ := tab_find z is
  unfold PySem.W.nsIn
  rw [kd.at_]
  dsimp only
  cases e : es.toList.find? (·.key.isStr z) with
  | none =>
    rw [e] at h2
    rw [h1]
    exact .inl ⟨h2, rfl⟩
  | some u =>
    rw [e] at h2
    obtain ⟨x, v, h3, h4, h5⟩ := h2
    refine .inr ⟨x, u.val, v, h3, ?_, h4, h5⟩
    dsimp only
end M
namespace M
open PySem PySem.Spec PyProof.Rows L2 Z
def Run {α : Type} (o : Option α) (P : α → Prop) : Prop := ∃ a, o = some a ∧ P a
theorem Run.mono {α : Type} {o : Option α} {P Q : α → Prop} (h : Run o P) (hq : ∀ a, P a → Q a) : Run o Q := let ⟨a, e, p⟩ := h; ⟨a, e, hq a p⟩
theorem Run.of {α : Type} {o : Option α} {a : α} {P : α → Prop} (e : o = some a) (h : P a) : Run o P := ⟨a, e, h⟩
theorem take_set {α : Type} {C : List α} {j : Nat} {x : α} : (C.set j x).take C.length = C.set j x := List.take_of_length_le (by rw [List.length_set]; exact Nat.le_refl _)
theorem take_app {α : Type} {C D : List α} : (C ++ D).take C.length = C := List.take_left
theorem set_at {α : Type} {C : List α} {j : Nat} {x y : α} (h : C[j]? = some y) : (C.set j x)[j]? = some x := List.getElem?_set_self (List.getElem?_eq_some_iff.mp h).1
theorem app_at {α : Type} {C : List α} {x : α} : (C ++ [x])[C.length]? = some x := by rw [List.getElem?_append_right (Nat.le_refl _), Nat.sub_self]; rfl
theorem app_set {α : Type} {C : List α} {x y : α} : (C ++ [x]).set C.length y = C ++ [y] := by rw [List.set_append_right _ _ (Nat.le_refl _), Nat.sub_self]; rfl
theorem app_old {α : Type} {C : List α} {x y : α} {j : Nat} (h : C[j]? = some y) : (C ++ [x])[j]? = some y := by rw [List.getElem?_append_left (List.getElem?_eq_some_iff.mp h).1]; exact h
theorem ix1 (C : Cells) (ds : List PyData) (i : Nat) (d : PyData) (h : ds[i]? = some d) : pIx C (.d (.tuple ds)) (.d (.int (i : Nat))) = some d := by
  show (AV.items C (.d (.tuple ds))).bind (fun ds => atI ds (i : Int)) = some d
  exact atI_nat h
theorem pix0 {C : Cells} {a : PyData} {ds : List PyData} : pIx C (.d (.tuple (a :: ds))) (.d (.int 0)) = some a := ix1 C _ 0 a rfl
theorem pix1 {C : Cells} {a b : PyData} {ds : List PyData} : pIx C (.d (.tuple (a :: b :: ds))) (.d (.int 1)) = some b := ix1 C _ 1 b rfl
theorem pix2 {C : Cells} {a b c : PyData} {ds : List PyData} : pIx C (.d (.tuple (a :: b :: c :: ds))) (.d (.int 2)) = some c := ix1 C _ 2 c rfl
theorem ixl (C : Cells) (ds : List PyData) (i : Nat) (d : PyData) (h : ds[i]? = some d) : pIx C (.d (.list ds)) (.d (.int (i : Nat))) = some d := by
  show (AV.items C (.d (.list ds))).bind (fun ds => atI ds (i : Int)) = some d
  exact atI_nat h
theorem peqs {C : Cells} {s t : Str} : pEq C (.d (.str s)) (.d (.str t)) = some (.bool (decide (s = t))) := rfl
theorem peqi {C : Cells} {s t : Int} : pEq C (.d (.int s)) (.d (.int t)) = some (.bool (decide (s = t))) := rfl
theorem pnes {C : Cells} {s t : Str} : pNe C (.d (.str s)) (.d (.str t)) = some (.bool (!decide (s = t))) := rfl
theorem pnei {C : Cells} {s t : Int} : pNe C (.d (.int s)) (.d (.int t)) = some (.bool (!decide (s = t))) := rfl
theorem paddi {C : Cells} {i j : Int} : pAdd C (.d (.int i)) (.d (.int j)) = some (.int (i + j)) := rfl
theorem psubi {C : Cells} {i j : Int} : pSub C (.d (.int i)) (.d (.int j)) = some (.int (i - j)) := rfl
theorem pgti {C : Cells} {i j : Int} : pGt C (.d (.int i)) (.d (.int j)) = some (.bool (decide (j < i))) := rfl
theorem pgei {C : Cells} {i j : Int} : pGe C (.d (.int i)) (.d (.int j)) = some (.bool (decide (j ≤ i))) := rfl
theorem plei {C : Cells} {i j : Int} : pLe C (.d (.int i)) (.d (.int j)) = some (.bool (decide (i ≤ j))) := rfl
theorem plti {C : Cells} {i j : Int} : pLt C (.d (.int i)) (.d (.int j)) = some (.bool (decide (i < j))) := rfl
open Classical in
theorem pmuli {C : Cells} {i j : Int} (h : CMul i j) : pMul C (.d (.int i)) (.d (.int j)) = some (.int (i * j)) := by
  show (if CMul i j then some (PyData.int (i * j)) else none) = _
  rw [if_pos h]
open Classical in
theorem pmodi {C : Cells} {i j : Int} (h : 0 < j) : pMod C (.d (.int i)) (.d (.int j)) = some (.int (i % j)) := by
  unfold pMod pIIc
  simp [asI, h]
open Classical in
theorem pfdivi {C : Cells} {i j : Int} (h : CDiv i j) : pFdiv C (.d (.int i)) (.d (.int j)) = some (.int (i / j)) := by
  show (if CDiv i j then some (PyData.int (i / j)) else none) = _
  rw [if_pos h]
open Classical in
theorem ppowi {C : Cells} {i j : Int} (h : CPow i j) : pPow C (.d (.int i)) (.d (.int j)) = some (.int (i ^ j.toNat)) := by
  show (if CPow i j then some (PyData.int (i ^ j.toNat)) else none) = _
  rw [if_pos h]
open Classical in
theorem pdivmodi {C : Cells} {i j : Int} (h : CDiv i j) : pDivmod C [.d (.int i), .d (.int j)] = some (.tuple [.int (i / j), .int (i % j)]) := by
  show (if CDiv i j then some (PyData.tuple [.int (i / j), .int (i % j)]) else none) = _
  rw [if_pos h]
theorem pinti {C : Cells} {i : Int} : pInt C [.d (.int i)] = some (.int i) := rfl
theorem pintb {C : Cells} {b : Bool} : pInt C [.d (.bool b)] = some (.int (if b = true then 1 else 0)) := rfl
theorem pabsi {C : Cells} {i : Int} : pAbs C [.d (.int i)] = some (.int (if i < 0 then -i else i)) := rfl
theorem pnegi {C : Cells} {i : Int} : pNeg C (.d (.int i)) = some (.int (-i)) := rfl
theorem plent {C : Cells} {ds : List PyData} : pLen C [.d (.tuple ds)] = some (.int (ds.length : Nat)) := rfl
theorem plenl {C : Cells} {ds : List PyData} : pLen C [.d (.list ds)] = some (.int (ds.length : Nat)) := rfl
theorem paddt {C : Cells} {xs ys : List PyData} (h : xs.length + ys.length ≤ 1000) : pAdd C (.d (.tuple xs)) (.d (.tuple ys)) = some (.tuple (xs ++ ys)) := by
  show (lim (xs ++ ys)).bind (fun zs => some (PyData.tuple zs)) = _
  unfold lim
  rw [if_pos (by rw [List.length_append]; exact h)]
  rfl
theorem paddl {C : Cells} {xs ys : List PyData} (h : xs.length + ys.length ≤ 1000) : pAdd C (.d (.list xs)) (.d (.list ys)) = some (.list (xs ++ ys)) := by
  show (lim (xs ++ ys)).bind (fun zs => some (PyData.list zs)) = _
  unfold lim
  rw [if_pos (by rw [List.length_append]; exact h)]
  rfl
theorem psltt {C : Cells} {ds : List PyData} {lo hi : Option Int} : pSl C (.d (.tuple ds)) lo hi = some (.tuple (Z.cutD ds lo hi)) := rfl
theorem psltl {C : Cells} {ds : List PyData} {lo hi : Option Int} : pSl C (.d (.list ds)) lo hi = some (.list (Z.cutD ds lo hi)) := rfl
theorem limt {ds : List PyData} (h : ds.length ≤ 1000) : lim ds = some ds := by unfold lim; rw [if_pos h]
theorem smallt {ds : List PyData} (h : ds.length ≤ 1000) : small ds = some () := by unfold small; rw [if_pos h]
/-- a well among the cells -/
def WellC (j : Nat) (C : Cells) : Prop := ∃ a b c d : Int, C[j]? = some (some [.int a, .int b, .int c, .int d]) ∧ 0 ≤ a ∧ 0 ≤ b ∧ b < 2147483563
/-- only the well has changed -/
def GoC (j : Nat) (C C' : Cells) : Prop := WellC j C' ∧ ∃ w, C' = C.set j (some w)
theorem GoC.refl {j : Nat} {C : Cells} (h : WellC j C) : GoC j C C := by
  refine ⟨h, ?_⟩
  obtain ⟨a, b, c, d, e, _⟩ := h
  refine ⟨[.int a, .int b, .int c, .int d], List.ext_getElem? fun i => ?_⟩
  by_cases hi : j = i
  · subst hi
    rw [set_at e, e]
  · rw [List.getElem?_set_ne hi]
theorem GoC.trans {j : Nat} {C C1 C2 : Cells} (h : GoC j C C1) (k : GoC j C1 C2) : GoC j C C2 := by
  obtain ⟨w, e⟩ := h.2
  obtain ⟨u, e2⟩ := k.2
  exact ⟨k.1, u, by rw [e2, e, List.set_set]⟩
theorem GoC.len {j : Nat} {C C1 : Cells} (h : GoC j C C1) : C1.length = C.length := by
  obtain ⟨w, e⟩ := h.2
  rw [e, List.length_set]
theorem GoC.take {j : Nat} {C C1 : Cells} (h : GoC j C C1) : C1.take C.length = C1 := List.take_of_length_le (by rw [h.len]; exact Nat.le_refl _)
theorem WellC.lt {j : Nat} {C : Cells} (h : WellC j C) : j < C.length := by
  obtain ⟨a, b, c, d, e, _⟩ := h
  exact (List.getElem?_eq_some_iff.mp e).1
/-- a cell beside, made here -/
theorem WellC.app {j : Nat} {C D : Cells} (h : WellC j C) : WellC j (C ++ D) := by
  obtain ⟨a, b, c, d, e, r⟩ := h
  exact ⟨a, b, c, d, by rw [List.getElem?_append_left (List.getElem?_eq_some_iff.mp e).1]; exact e, r⟩
theorem GoC.app {j : Nat} {C D E : Cells} (hj : j < C.length) (h : GoC j (C ++ D) E) : ∃ C', E = C' ++ D ∧ GoC j C C' := by
  obtain ⟨⟨a, b, c, d, e, r⟩, w, e2⟩ := h
  rw [List.set_append_left _ _ hj] at e2
  subst e2
  refine ⟨C.set j (some w), rfl, ⟨a, b, c, d, ?_, r⟩, w, rfl⟩
  rw [List.getElem?_append_left (by rw [List.length_set]; exact hj)] at e
  exact e
end M
namespace M
open PySem PySem.Spec PyProof.Rows L2 Z
def RE (o : Option (AV × Cells)) (P : AV → Cells → Prop) : Prop := ∃ a C, o = some (a, C) ∧ P a C
def RT (o : Option (Bool × Cells)) (P : Bool → Cells → Prop) : Prop := ∃ a C, o = some (a, C) ∧ P a C
def RA (o : Option (List AV × Cells)) (P : List AV → Cells → Prop) : Prop := ∃ a C, o = some (a, C) ∧ P a C
def RO (o : Option (Option Int × Cells)) (P : Option Int → Cells → Prop) : Prop := ∃ a C, o = some (a, C) ∧ P a C
def RG (o : Option (Env × Cells)) (P : Env → Cells → Prop) : Prop := ∃ a C, o = some (a, C) ∧ P a C
def RP {α : Type} (o : Option α) (P : α → Prop) : Prop := ∃ a, o = some a ∧ P a
def RI (o : Option (List AV × (Cells → Bool) × Cells)) (P : List AV → (Cells → Bool) → Cells → Prop) : Prop := ∃ a k C, o = some (a, k, C) ∧ P a k C
structure MEnds where
  nx : Env → Cells → Prop
  rt : AV → Cells → Prop
  bk : Env → Cells → Prop
  ct : Env → Cells → Prop
def RSt (o : Option (Fl × Env × Cells)) (D : MEnds) : Prop := ∃ fl env C, o = some (fl, env, C) ∧ match fl with
  | .nx => D.nx env C
  | .rt av => D.rt av C
  | .bk => D.bk env C
  | .ct => D.ct env C
theorem RE.mono {o : Option (AV × Cells)} {P Q : AV → Cells → Prop} (h : RE o P) (k : ∀ a C, P a C → Q a C) : RE o Q := let ⟨a, C, e, p⟩ := h; ⟨a, C, e, k a C p⟩
theorem RE.eq {o : Option (AV × Cells)} {a : AV} {C : Cells} {P : AV → Cells → Prop} (e : o = some (a, C)) (p : P a C) : RE o P := ⟨a, C, e, p⟩
theorem RE.to {o : Option (AV × Cells)} {a : AV} {C : Cells} (h : RE o fun b D => b = a ∧ D = C) : o = some (a, C) := by
  obtain ⟨b, D, e, rfl, rfl⟩ := h
  exact e
theorem RP.eq {α : Type} {o : Option α} {a : α} {P : α → Prop} (e : o = some a) (p : P a) : RP o P := ⟨a, e, p⟩
section
variable {env : Env} {C : Cells} {P : AV → Cells → Prop} {PT : Bool → Cells → Prop} {PAs : List AV → Cells → Prop} {ma mb me mo mi : EM} {mt mu : TM} {mA : AM} {m n : SM} {D : MEnds} {i j l : Nat}
theorem q_var {av : AV} (h : env[i]?.join = some av) (q : P av C) : RE (mVar i env C) P := ⟨av, C, by unfold mVar; rw [h]; rfl, q⟩
theorem q_c {x : PyData} (q : P (.d x) C) : RE (mC x env C) P := ⟨_, _, rfl, q⟩
theorem q_ty {x : String} (q : P (.t x) C) : RE (mTy x env C) P := ⟨_, _, rfl, q⟩
theorem q_op {p : Cells → AV → AV → Option PyData} (q : RE (ma env C) fun a C1 => RE (mb env C1) fun b C2 => RP (p C2 a b) fun z => P (.d z) C2) : RE (mOp p ma mb env C) P := by
  obtain ⟨a, C1, e1, b, C2, e2, z, e3, q⟩ := q
  exact ⟨_, _, by unfold mOp; rw [e1]; show (mb env C1).bind _ = _; rw [e2]; show (p C2 a b).bind _ = _; rw [e3]; rfl, q⟩
theorem q_un {p : Cells → AV → Option PyData} (q : RE (ma env C) fun a C1 => RP (p C1 a) fun z => P (.d z) C1) : RE (mUn p ma env C) P := by
  obtain ⟨a, C1, e1, z, e3, q⟩ := q
  exact ⟨_, _, by unfold mUn; rw [e1]; show (p C1 a).bind _ = _; rw [e3]; rfl, q⟩
theorem q_nil (q : PAs [] C) : RA (aNil env C) PAs := ⟨_, _, rfl, q⟩
theorem q_cons (q : RE (me env C) fun a C1 => RA (mA env C1) fun as C2 => PAs (a :: as) C2) : RA (aCons me mA env C) PAs := by
  obtain ⟨a, C1, e1, as, C2, e2, q⟩ := q
  exact ⟨_, _, by unfold aCons; rw [e1]; show (mA env C1).bind _ = _; rw [e2]; rfl, q⟩
theorem q_cb {p : Cells → List AV → Option PyData} (q : RA (mA env C) fun as C1 => RP (p C1 as) fun z => P (.d z) C1) : RE (mCB p mA env C) P := by
  obtain ⟨a, C1, e1, z, e3, q⟩ := q
  exact ⟨_, _, by unfold mCB; rw [e1]; show (p C1 a).bind _ = _; rw [e3]; rfl, q⟩
theorem q_call {np : Nat} {f : FM} (q : RA (mA env C) fun as C1 => as.length = np ∧ RE (f as C1) P) : RE (mCall np f mA env C) P := by
  obtain ⟨a, C1, e1, hl, b, C2, e2, q⟩ := q
  exact ⟨_, _, by unfold mCall; rw [e1]; show (if a.length = np then f a C1 else none) = _; rw [if_pos hl, e2], q⟩
theorem q_callN {np : Nat} {f : FM} {perm : List AV → List AV} (q : RA (mA env C) fun as C1 => (perm as).length = np ∧ RE (f (perm as) C1) P) : RE (mCallN np f perm mA env C) P := by
  obtain ⟨a, C1, e1, hl, b, C2, e2, q⟩ := q
  exact ⟨_, _, by unfold mCallN; rw [e1]; show (if (perm a).length = np then f (perm a) C1 else none) = _; rw [if_pos hl, e2], q⟩
theorem q_tup (q : RA (mA env C) fun as C1 => RP (allD as) fun ds => ds.length ≤ 1000 ∧ P (.d (.tuple ds)) C1) : RE (mTup mA env C) P := by
  obtain ⟨a, C1, e1, ds, e2, hl, q⟩ := q
  exact ⟨_, _, by unfold mTup; rw [e1]; show (allD a).bind _ = _; rw [e2]; show (lim ds).bind _ = _; rw [limt hl]; rfl, q⟩
theorem q_lst (q : RA (mA env C) fun as C1 => RP (allD as) fun ds => ds.length ≤ 1000 ∧ P (.d (.list ds)) C1) : RE (mLst mA env C) P := by
  obtain ⟨a, C1, e1, ds, e2, hl, q⟩ := q
  exact ⟨_, _, by unfold mLst; rw [e1]; show (allD a).bind _ = _; rw [e2]; show (lim ds).bind _ = _; rw [limt hl]; rfl, q⟩
theorem q_lstC (q : RA (mA env C) fun as C1 => RP (allD as) fun ds => ds.length ≤ 1000 ∧ P (.c C1.length) (C1 ++ [some ds])) : RE (mLstC mA env C) P := by
  obtain ⟨a, C1, e1, ds, e2, hl, q⟩ := q
  exact ⟨_, _, by unfold mLstC; rw [e1]; show (allD a).bind _ = _; rw [e2]; show (lim ds).bind _ = _; rw [limt hl]; rfl, q⟩
theorem q_frz (q : RE (me env C) fun a C1 => ∃ j, a = .c j ∧ RP (C1[j]?.join) fun ds => P (.d (.list ds)) (C1.set j none)) : RE (mFrz me env C) P := by
  obtain ⟨a, C1, e1, j, rfl, ds, e2, q⟩ := q
  exact ⟨_, _, by unfold mFrz; rw [e1]; show (C1[j]?.join).bind _ = _; rw [e2]; rfl, q⟩
theorem q_andV (q : RE (ma env C) fun a C1 => RP (asB a) fun b => if b = true then RE (mb env C1) P else P (.d (.bool false)) C1) : RE (mAndV ma mb env C) P := by
  obtain ⟨a, C1, e1, b, e2, q⟩ := q
  cases b with
  | true =>
    obtain ⟨c, C2, e3, q⟩ : RE (mb env C1) P := by simpa using q
    exact ⟨c, C2, by unfold mAndV; rw [e1]; show (asB a).bind _ = _; rw [e2]; exact e3, q⟩
  | false => exact ⟨_, _, by unfold mAndV; rw [e1]; show (asB a).bind _ = _; rw [e2]; rfl, (by simpa using q)⟩
theorem q_orV (q : RE (ma env C) fun a C1 => RP (asB a) fun b => if b = true then P (.d (.bool true)) C1 else RE (mb env C1) P) : RE (mOrV ma mb env C) P := by
  obtain ⟨a, C1, e1, b, e2, q⟩ := q
  cases b with
  | false =>
    obtain ⟨c, C2, e3, q⟩ : RE (mb env C1) P := by simpa using q
    exact ⟨c, C2, by unfold mOrV; rw [e1]; show (asB a).bind _ = _; rw [e2]; exact e3, q⟩
  | true => exact ⟨_, _, by unfold mOrV; rw [e1]; show (asB a).bind _ = _; rw [e2]; rfl, (by simpa using q)⟩
theorem q_notV (q : RE (ma env C) fun a C1 => RP (asB a) fun b => P (.d (.bool (!b))) C1) : RE (mNotV ma env C) P := by
  obtain ⟨a, C1, e1, b, e2, q⟩ := q
  exact ⟨_, _, by unfold mNotV; rw [e1]; show (asB a).bind _ = _; rw [e2]; rfl, q⟩
theorem q_test (q : RE (ma env C) fun a C1 => RP (asB a) fun b => PT b C1) : RT (mTest ma env C) PT := by
  obtain ⟨a, C1, e1, b, e2, q⟩ := q
  exact ⟨_, _, by unfold mTest; rw [e1]; show (asB a).bind _ = _; rw [e2]; rfl, q⟩
theorem q_tru (q : RE (ma env C) fun a C1 => RP (truD C1 a) fun b => PT b C1) : RT (mTru ma env C) PT := by
  obtain ⟨a, C1, e1, b, e2, q⟩ := q
  exact ⟨_, _, by unfold mTru; rw [e1]; show (truD C1 a).bind _ = _; rw [e2]; rfl, q⟩
theorem q_and (q : RT (mt env C) fun b C1 => if b = true then RT (mu env C1) PT else PT false C1) : RT (mAnd mt mu env C) PT := by
  obtain ⟨b, C1, e1, q⟩ := q
  cases b with
  | true =>
    obtain ⟨c, C2, e3, q⟩ : RT (mu env C1) PT := by simpa using q
    exact ⟨c, C2, by unfold mAnd; rw [e1]; exact e3, q⟩
  | false => exact ⟨_, _, by unfold mAnd; rw [e1]; rfl, (by simpa using q)⟩
theorem q_or (q : RT (mt env C) fun b C1 => if b = true then PT true C1 else RT (mu env C1) PT) : RT (mOr mt mu env C) PT := by
  obtain ⟨b, C1, e1, q⟩ := q
  cases b with
  | false =>
    obtain ⟨c, C2, e3, q⟩ : RT (mu env C1) PT := by simpa using q
    exact ⟨c, C2, by unfold mOr; rw [e1]; exact e3, q⟩
  | true => exact ⟨_, _, by unfold mOr; rw [e1]; rfl, (by simpa using q)⟩
theorem q_not (q : RT (mt env C) fun b C1 => PT (!b) C1) : RT (mNot mt env C) PT := by
  obtain ⟨b, C1, e1, q⟩ := q
  exact ⟨_, _, by unfold mNot; rw [e1]; rfl, q⟩
theorem q_yes (q : PT true C) : RT (mYes env C) PT := ⟨_, _, rfl, q⟩
theorem q_if (q : RT (mt env C) fun b C1 => if b = true then RE (ma env C1) P else RE (mb env C1) P) : RE (mIf mt ma mb env C) P := by
  obtain ⟨b, C1, e1, q⟩ := q
  cases b with
  | true =>
    obtain ⟨c, C2, e3, q⟩ : RE (ma env C1) P := by simpa using q
    exact ⟨c, C2, by unfold mIf; rw [e1]; exact e3, q⟩
  | false =>
    obtain ⟨c, C2, e3, q⟩ : RE (mb env C1) P := by simpa using q
    exact ⟨c, C2, by unfold mIf; rw [e1]; exact e3, q⟩
theorem q_onone {Q : Option Int → Cells → Prop} (q : Q none C) : RO (oNone env C) Q := ⟨_, _, rfl, q⟩
theorem q_osome {Q : Option Int → Cells → Prop} (q : RE (ma env C) fun a C1 => ∃ i, a = .d (.int i) ∧ Q (some i) C1) : RO (oSome ma env C) Q := by
  obtain ⟨a, C1, e1, i, rfl, q⟩ := q
  exact ⟨_, _, by unfold oSome; rw [e1]; rfl, q⟩
theorem q_sl {p : Cells → AV → Option Int → Option Int → Option PyData} {ml mh : OM} (q : RE (me env C) fun a C1 => RO (ml env C1) fun lo C2 => RO (mh env C2) fun hi C3 => RP (p C3 a lo hi) fun z => P (.d z) C3) : RE (mSl p me ml mh env C) P := by
  obtain ⟨a, C1, e1, lo, C2, e2, hi, C3, e3, z, e4, q⟩ := q
  exact ⟨_, _, by unfold mSl; rw [e1]; show (ml env C1).bind _ = _; rw [e2]; show (mh env C2).bind _ = _; rw [e3]; show (p C3 a lo hi).bind _ = _; rw [e4]; rfl, q⟩
theorem q_gname {Q : Env → Cells → Prop} {av : AV} (q : Q (env.set i (some av)) C) : RG (gmName i av env C) Q := ⟨_, _, rfl, q⟩
theorem q_gtup {Q : Env → Cells → Prop} {k : Nat} {gs : GsM} {ds : List PyData} (h : ds.length = k) (q : RG (gs (ds.map AV.d) env C) Q) : RG (gmTup k gs (.d (.tuple ds)) env C) Q := by
  obtain ⟨e2, C2, e, q⟩ := q
  exact ⟨e2, C2, by show (if ds.length = k then gs (ds.map AV.d) env C else none) = _; rw [if_pos h, e], q⟩
theorem q_gnil {Q : Env → Cells → Prop} (q : Q env C) : RG (gmNil [] env C) Q := ⟨_, _, rfl, q⟩
theorem q_gcons {Q : Env → Cells → Prop} {g : GM} {gs : GsM} {a : AV} {as : List AV} (q : RG (g a env C) fun env1 C1 => RG (gs as env1 C1) Q) : RG (gmCons g gs (a :: as) env C) Q := by
  obtain ⟨e1, C1, h1, e2, C2, h2, q⟩ := q
  exact ⟨e2, C2, by show (g a env C).bind _ = _; rw [h1]; exact h2, q⟩
theorem q_gsub {Q : Env → Cells → Prop} {av : AV} (q : RE (mo env C) fun o C1 => RE (mi env C1) fun x C2 => RP (setC o x av C2) fun C3 => Q env C3) : RG (gmSub mo mi av env C) Q := by
  obtain ⟨o, C1, h1, x, C2, h2, C3, h3, q⟩ := q
  exact ⟨env, C3, by unfold gmSub; rw [h1]; show (mi env C1).bind _ = _; rw [h2]; show (setC o x av C2).bind _ = _; rw [h3]; rfl, q⟩
theorem q_next (q : D.nx env C) : RSt (sNext env C) D := ⟨.nx, env, C, rfl, q⟩
theorem q_seq (q : RSt (m env C) { D with nx := fun env1 C1 => RSt (n env1 C1) D }) : RSt (sSeq m n env C) D := by
  obtain ⟨fl, e1, C1, h1, q⟩ := q
  cases fl with
  | nx =>
    obtain ⟨fl, e2, C2, h2, q⟩ : RSt (n e1 C1) D := q
    exact ⟨fl, e2, C2, by unfold sSeq; rw [h1]; exact h2, q⟩
  | bk => exact ⟨.bk, e1, C1, by unfold sSeq; rw [h1]; rfl, q⟩
  | ct => exact ⟨.ct, e1, C1, by unfold sSeq; rw [h1]; rfl, q⟩
  | rt a => exact ⟨.rt a, e1, C1, by unfold sSeq; rw [h1]; rfl, q⟩
theorem q_ret (q : RE (me env C) D.rt) : RSt (sRet me env C) D := by
  obtain ⟨a, C1, h1, q⟩ := q
  exact ⟨.rt a, env, C1, by unfold sRet; rw [h1]; rfl, q⟩
theorem q_sif (q : RT (mt env C) fun b C1 => if b = true then RSt (m env C1) D else RSt (n env C1) D) : RSt (sIf mt m n env C) D := by
  obtain ⟨b, C1, e1, q⟩ := q
  cases b with
  | true =>
    obtain ⟨fl, e2, C2, e3, q⟩ : RSt (m env C1) D := by simpa using q
    exact ⟨fl, e2, C2, by unfold sIf; rw [e1]; exact e3, q⟩
  | false =>
    obtain ⟨fl, e2, C2, e3, q⟩ : RSt (n env C1) D := by simpa using q
    exact ⟨fl, e2, C2, by unfold sIf; rw [e1]; exact e3, q⟩
theorem q_asg {g : GM} (q : RE (me env C) fun a C1 => RG (g a env C1) D.nx) : RSt (sAsg me g env C) D := by
  obtain ⟨a, C1, h1, e2, C2, h2, q⟩ := q
  exact ⟨.nx, e2, C2, by unfold sAsg; rw [h1]; show (g a env C1).bind _ = _; rw [h2]; rfl, q⟩
theorem q_drop (q : RE (me env C) fun _ C1 => D.nx env C1) : RSt (sDrop me env C) D := by
  obtain ⟨a, C1, h1, q⟩ := q
  exact ⟨.nx, env, C1, by unfold sDrop; rw [h1]; rfl, q⟩
theorem q_par (q : RA (mA env C) fun as C1 => ∃ a b, as = [a, b] ∧ D.nx ((env.set i (some a)).set j (some b)) C1) : RSt (sPar i j mA env C) D := by
  obtain ⟨as, C1, h1, a, b, rfl, q⟩ := q
  exact ⟨.nx, _, C1, by unfold sPar; rw [h1]; rfl, q⟩
theorem q_par3 (q : RA (mA env C) fun as C1 => ∃ a b c, as = [a, b, c] ∧ D.nx (((env.set i (some a)).set j (some b)).set l (some c)) C1) : RSt (sPar3 i j l mA env C) D := by
  obtain ⟨as, C1, h1, a, b, c, rfl, q⟩ := q
  exact ⟨.nx, _, C1, by unfold sPar3; rw [h1]; rfl, q⟩
theorem q_app (q : RE (mo env C) fun o C1 => ∃ j, o = .c j ∧ (∃ ds, C1[j]? = some (some ds)) ∧ RA (mA env C1) fun as C2 => ∃ z ds, as = [.d z] ∧ C2[j]? = some (some ds) ∧ ds.length ≤ 1000 ∧ P (.d .none) (C2.set j (some (ds ++ [z])))) : RE (mApp mo mA env C) P := by
  obtain ⟨o, C1, h1, j, rfl, ⟨ds0, h2⟩, as, C2, h3, z, ds, rfl, h4, h5, q⟩ := q
  refine ⟨_, _, ?_, q⟩
  unfold mApp
  rw [h1]
  show (C1[j]?.join).bind _ = _
  rw [h2]
  show (mA env C1).bind _ = _
  rw [h3]
  show (C2[j]?.join).bind _ = _
  rw [h4]
  show (small ds).bind _ = _
  rw [smallt h5]
  rfl
theorem q_for {it : IM} {g : GM} {mb : SM} (q : RI (it env C) fun items keep C1 => RSt (loop keep g mb items env C1) D) : RSt (sFor it g mb env C) D := by
  obtain ⟨items, keep, C1, h1, fl, e2, C2, h2, q⟩ := q
  exact ⟨fl, e2, C2, by unfold sFor; rw [h1]; exact h2, q⟩
/-- over items that need no keeping -/
theorem q_loop {g : GM} {mb : SM} {items : List AV} {keep : Cells → Bool} (Inv : Nat → Env → Cells → Prop) (h0 : Inv 0 env C) (hk : ∀ i env C, Inv i env C → keep C = true)
    (hs : ∀ i av env C, items[i]? = some av → Inv i env C → RG (g av env C) fun env1 C1 => RSt (mb env1 C1) { D with nx := Inv (i + 1), ct := Inv (i + 1), bk := D.nx }) (hd : ∀ env C, Inv items.length env C → D.nx env C) : RSt (loop keep g mb items env C) D := by
  have main : ∀ (k i : Nat), i + k = items.length → ∀ env C, Inv i env C → RSt (loop keep g mb (items.drop i) env C) D := by
    intro k
    induction k with
    | zero =>
      intro i hi env C h
      have e : i = items.length := by omega
      subst e
      rw [List.drop_length]
      exact ⟨.nx, env, C, by unfold loop; rw [if_pos (hk _ _ _ h)], hd _ _ h⟩
    | succ k ih =>
      intro i hi env C h
      have hlt : i < items.length := by omega
      rw [List.drop_eq_getElem_cons hlt]
      obtain ⟨e1, C1, h1, fl, e2, C2, h2, q⟩ := hs i _ env C (List.getElem?_eq_getElem hlt) h
      rw [loop, if_pos (hk _ _ _ h), h1]
      show RSt ((mb e1 C1).bind _) D
      cases fl with
      | nx => rw [h2]; exact ih (i + 1) (by omega) e2 C2 q
      | ct => rw [h2]; exact ih (i + 1) (by omega) e2 C2 q
      | bk => rw [h2]; exact ⟨.nx, e2, C2, rfl, q⟩
      | rt a => rw [h2]; exact ⟨.rt a, e2, C2, rfl, q⟩
  have z := main items.length 0 (by omega) env C h0
  rwa [List.drop_zero] at z
theorem q_lc {it : IM} {g : GM} {vs : List Nat} (q : RI (it env C) fun items keep C1 => RP (comp keep g mt me C1.length (wipeE env vs) items (C1 ++ [some []])) fun C2 => ∃ ds, C2[C1.length]? = some (some ds) ∧ P (.d (.list ds)) (C2.take C1.length)) : RE (mLc it g mt me vs env C) P := by
  obtain ⟨items, keep, C1, h1, C2, h2, ds, h3, q⟩ := q
  refine ⟨_, _, ?_, q⟩
  unfold mLc
  rw [h1]
  show (comp keep g mt me C1.length (wipeE env vs) items (C1 ++ [some []])).bind _ = _
  rw [h2]
  show (C2[C1.length]?.join).bind _ = _
  rw [h3]
  rfl
theorem q_comp {g : GM} {items : List AV} {keep : Cells → Bool} {Q : Cells → Prop} (Inv : Nat → Cells → Prop) (h0 : Inv 0 C) (hk : ∀ i C, Inv i C → keep C = true)
    (hs : ∀ i av C, items[i]? = some av → Inv i C → RG (g av env C) fun env1 C1 => RT (mt env1 C1) fun b C2 => if b = true then RE (me env1 C2) fun y C3 => ∃ z ds, y = .d z ∧ C3[j]? = some (some ds) ∧ ds.length ≤ 1000 ∧ Inv (i + 1) (C3.set j (some (ds ++ [z]))) else Inv (i + 1) C2)
    (hd : ∀ C, Inv items.length C → Q C) : RP (comp keep g mt me j env items C) Q := by
  have main : ∀ (k i : Nat), i + k = items.length → ∀ C, Inv i C → RP (comp keep g mt me j env (items.drop i) C) Q := by
    intro k
    induction k with
    | zero =>
      intro i hi C h
      have e : i = items.length := by omega
      subst e
      rw [List.drop_length]
      exact ⟨C, by unfold comp; rw [if_pos (hk _ _ h)], hd _ h⟩
    | succ k ih =>
      intro i hi C h
      have hlt : i < items.length := by omega
      rw [List.drop_eq_getElem_cons hlt]
      obtain ⟨e1, C1, h1, b, C2, h2, q⟩ := hs i _ C (List.getElem?_eq_getElem hlt) h
      have unf : comp keep g mt me j env (items[i] :: items.drop (i + 1)) C = if b = true then (me e1 C2).bind fun y => (pushC j y.1 y.2).bind fun C2 => comp keep g mt me j env (items.drop (i + 1)) C2 else comp keep g mt me j env (items.drop (i + 1)) C2 := by
        rw [comp, if_pos (hk _ _ h), h1]
        show (mt e1 C1).bind _ = _
        rw [h2]
        rfl
      rw [unf]
      cases b with
      | false => exact ih (i + 1) (by omega) C2 (by simpa using q)
      | true =>
        obtain ⟨y, C3, h3, z, ds, rfl, h4, h5, q⟩ : RE (me e1 C2) fun y C3 => ∃ z ds, y = .d z ∧ C3[j]? = some (some ds) ∧ ds.length ≤ 1000 ∧ Inv (i + 1) (C3.set j (some (ds ++ [z]))) := by simpa using q
        rw [if_pos rfl, h3]
        show RP ((pushC j (.d z) C3).bind fun C2 => comp keep g mt me j env (items.drop (i + 1)) C2) Q
        have e2 : pushC j (.d z) C3 = some (C3.set j (some (ds ++ [z]))) := by
          show (C3[j]?.join).bind _ = _
          rw [h4]
          show (if ds.length ≤ 1000 then some (C3.set j (some (ds ++ [z]))) else none) = _
          rw [if_pos h5]
        rw [e2]
        exact ih (i + 1) (by omega) _ q
  have z := main items.length 0 (by omega) C h0
  rwa [List.drop_zero] at z
theorem q_iT {Q : List AV → (Cells → Bool) → Cells → Prop} (q : RE (me env C) fun a C1 => ∃ ds, a = .d (.tuple ds) ∧ Q (ds.map AV.d) (fun _ => true) C1) : RI (iA me env C) Q := by
  obtain ⟨a, C1, h1, ds, rfl, q⟩ := q
  exact ⟨_, _, _, by unfold iA; rw [h1]; rfl, q⟩
theorem q_iL {Q : List AV → (Cells → Bool) → Cells → Prop} (q : RE (me env C) fun a C1 => ∃ ds, a = .d (.list ds) ∧ Q (ds.map AV.d) (fun _ => true) C1) : RI (iA me env C) Q := by
  obtain ⟨a, C1, h1, ds, rfl, q⟩ := q
  exact ⟨_, _, _, by unfold iA; rw [h1]; rfl, q⟩
theorem q_iC {Q : List AV → (Cells → Bool) → Cells → Prop} (q : RE (me env C) fun a C1 => ∃ j ds, a = .c j ∧ C1[j]? = some (some ds) ∧ Q (ds.map AV.d) (keepC j ds) C1) : RI (iA me env C) Q := by
  obtain ⟨a, C1, h1, j, ds, rfl, h2, q⟩ := q
  exact ⟨_, _, _, by unfold iA; rw [h1]; show (C1[j]?.join).bind _ = _; rw [h2]; rfl, q⟩
theorem q_iR1 {Q : List AV → (Cells → Bool) → Cells → Prop} (q : RA (mA env C) fun as C1 => ∃ j : Int, as = [.d (.int j)] ∧ j.natAbs ≤ 1000000 ∧ Q (rngs 0 j.toNat) (fun _ => true) C1) : RI (iR1 mA env C) Q := by
  obtain ⟨a, C1, h1, j, rfl, h2, q⟩ := q
  exact ⟨_, _, _, by unfold iR1; rw [h1]; show (if j.natAbs ≤ 1000000 then _ else none) = _; rw [if_pos h2], q⟩
theorem q_iZT {Q : List AV → (Cells → Bool) → Cells → Prop} (q : RA (mA env C) fun as C1 => ∃ xs ys, as = [.d (.tuple xs), .d (.tuple ys)] ∧ Q (zipD xs ys) (fun _ => true) C1) : RI (iZ mA env C) Q := by
  obtain ⟨a, C1, h1, xs, ys, rfl, q⟩ := q
  exact ⟨_, _, _, by unfold iZ; rw [h1]; rfl, q⟩
theorem q_fun {np ns : Nat} {as : List AV} (hl : as.length = np) (q : RSt (m (as.map some ++ List.replicate (ns - as.length) none) C) ⟨fun _ C1 => P (.d .none) (C1.take C.length), fun av C1 => ∃ a2 C2, leave C.length av C1 = some (a2, C2) ∧ P a2 C2, fun _ _ => False, fun _ _ => False⟩) : RE (mFun np ns m as C) P := by
  obtain ⟨fl, e1, C1, h1, q⟩ := q
  unfold mFun
  rw [if_pos hl, h1]
  cases fl with
  | nx => exact ⟨_, _, rfl, q⟩
  | rt a =>
    obtain ⟨a2, C2, h2, q⟩ := q
    exact ⟨a2, C2, h2, q⟩
  | bk => exact q.elim
  | ct => exact q.elim
theorem q_leave {k : Nat} {x : PyData} (q : P (.d x) (C.take k)) : ∃ a2 C2, leave k (.d x) C = some (a2, C2) ∧ P a2 C2 := ⟨_, _, rfl, q⟩
theorem q_it {Q R : Prop} (q : Q) : if true = true then Q else R := by rw [if_pos rfl]; exact q
theorem q_if0 {Q R : Prop} (q : R) : if false = true then Q else R := by rw [if_neg Bool.false_ne_true]; exact q
theorem q_dec {c : Prop} [Decidable c] {Q R : Prop} (h1 : c → Q) (h2 : ¬ c → R) : if decide c = true then Q else R := r_dec h1 h2
theorem q_bool {b : Bool} {Q R : Prop} (h1 : b = true → Q) (h2 : b = false → R) : if b = true then Q else R := r_bool h1 h2
theorem q_ndec {c : Prop} [Decidable c] {Q R : Prop} (h1 : ¬ c → Q) (h2 : c → R) : if (!decide c) = true then Q else R := r_ndec h1 h2
theorem q_nbool {b : Bool} {Q R : Prop} (h1 : b = false → Q) (h2 : b = true → R) : if (!b) = true then Q else R := r_nbool h1 h2
end
theorem cIx {C : Cells} {j : Nat} {k : Int} {ds : List PyData} {d : PyData} {P : PyData → Prop} (hc : C[j]? = some (some ds)) (h : atI ds k = some d) (q : P d) : RP (pIx C (.c j) (.d (.int k))) P := by
  refine RP.eq ?_ q
  show (C[j]?.join).bind (fun ds => atI ds k) = some d
  rw [hc]
  exact h
theorem cSet {C : Cells} {j i : Nat} {k : Int} {ds : List PyData} {d : PyData} {P : Cells → Prop} (hc : C[j]? = some (some ds)) (h : ixN ds.length k = some i) (q : P (C.set j (some (ds.set i d)))) : RP (setC (.c j) (.d (.int k)) (.d d) C) P := by
  refine RP.eq ?_ q
  show (C[j]?.join).bind _ = _
  rw [hc]
  show (ixN ds.length k).bind _ = _
  rw [h]
  rfl
theorem prepr {C : Cells} {x : PyData} (h1 : x.showable = true) (h2 : x.hasDict = false) (h3 : x.depth ≤ 64) (h4 : x.shown.length ≤ sizeLine) : pRepr C [.d x] = some (.str x.shown) := by
  show (if x.showable = true ∧ x.hasDict = false ∧ x.depth ≤ 64 ∧ x.shown.length ≤ sizeLine then some (PyData.str x.shown) else none) = _
  rw [if_pos ⟨h1, h2, h3, h4⟩]
theorem q_gnilM {env : Env} {C : Cells} {Q : Env → Cells → Prop} (q : Q env C) : RG (gmNil (List.map AV.d []) env C) Q := ⟨_, _, rfl, q⟩
theorem q_gconsM {env : Env} {C : Cells} {Q : Env → Cells → Prop} {g : GM} {gs : GsM} {a : PyData} {as : List PyData} (q : RG (g (.d a) env C) fun env1 C1 => RG (gs (List.map AV.d as) env1 C1) Q) : RG (gmCons g gs (List.map AV.d (a :: as)) env C) Q := q_gcons q
def tInt : PyData → Bool
  | .int _ => true
  | .bool _ => true
  | _ => false
def tBool : PyData → Bool
  | .bool _ => true
  | _ => false
def tTup : PyData → Bool
  | .tuple _ => true
  | _ => false
def tStr : PyData → Bool
  | .str _ => true
  | _ => false
def tLst : PyData → Bool
  | .list _ => true
  | _ => false
theorem pisi_of {C : Cells} {x : PyData} {n : String} {b : Bool} (h : kitB (tyn x) n = some b) : pIsi C [.d x, .t n] = some (.bool b) := by
  show (kitB (tyn x) n).bind _ = _
  rw [h]
  rfl
theorem isi_int {C : Cells} {x : PyData} : pIsi C [.d x, .t "int"] = some (.bool (tInt x)) := pisi_of (by
  cases x with
  | none => show kitB "NoneType" "int" = some false; decide +kernel
  | bool b => show kitB "bool" "int" = some true; decide +kernel
  | int b => show kitB "int" "int" = some true; decide +kernel
  | str b => show kitB "str" "int" = some false; decide +kernel
  | list b => show kitB "list" "int" = some false; decide +kernel
  | tuple b => show kitB "tuple" "int" = some false; decide +kernel
  | dict b => show kitB "dict" "int" = some false; decide +kernel)
theorem isi_bool {C : Cells} {x : PyData} : pIsi C [.d x, .t "bool"] = some (.bool (tBool x)) := pisi_of (by
  cases x with
  | none => show kitB "NoneType" "bool" = some false; decide +kernel
  | bool b => show kitB "bool" "bool" = some true; decide +kernel
  | int b => show kitB "int" "bool" = some false; decide +kernel
  | str b => show kitB "str" "bool" = some false; decide +kernel
  | list b => show kitB "list" "bool" = some false; decide +kernel
  | tuple b => show kitB "tuple" "bool" = some false; decide +kernel
  | dict b => show kitB "dict" "bool" = some false; decide +kernel)
theorem isi_tuple {C : Cells} {x : PyData} : pIsi C [.d x, .t "tuple"] = some (.bool (tTup x)) := pisi_of (by
  cases x with
  | none => show kitB "NoneType" "tuple" = some false; decide +kernel
  | bool b => show kitB "bool" "tuple" = some false; decide +kernel
  | int b => show kitB "int" "tuple" = some false; decide +kernel
  | str b => show kitB "str" "tuple" = some false; decide +kernel
  | list b => show kitB "list" "tuple" = some false; decide +kernel
  | tuple b => show kitB "tuple" "tuple" = some true; decide +kernel
  | dict b => show kitB "dict" "tuple" = some false; decide +kernel)
theorem isi_str {C : Cells} {x : PyData} : pIsi C [.d x, .t "str"] = some (.bool (tStr x)) := pisi_of (by
  cases x with
  | none => show kitB "NoneType" "str" = some false; decide +kernel
  | bool b => show kitB "bool" "str" = some false; decide +kernel
  | int b => show kitB "int" "str" = some false; decide +kernel
  | str b => show kitB "str" "str" = some true; decide +kernel
  | list b => show kitB "list" "str" = some false; decide +kernel
  | tuple b => show kitB "tuple" "str" = some false; decide +kernel
  | dict b => show kitB "dict" "str" = some false; decide +kernel)
theorem isi_list {C : Cells} {x : PyData} : pIsi C [.d x, .t "list"] = some (.bool (tLst x)) := pisi_of (by
  cases x with
  | none => show kitB "NoneType" "list" = some false; decide +kernel
  | bool b => show kitB "bool" "list" = some false; decide +kernel
  | int b => show kitB "int" "list" = some false; decide +kernel
  | str b => show kitB "str" "list" = some false; decide +kernel
  | list b => show kitB "list" "list" = some true; decide +kernel
  | tuple b => show kitB "tuple" "list" = some false; decide +kernel
  | dict b => show kitB "dict" "list" = some false; decide +kernel)
theorem q_len {ds : List PyData} {Q : Prop} (h : Nat.ble ds.length 1000 = true) (q : Q) : ds.length ≤ 1000 ∧ Q := ⟨Nat.le_of_ble_eq_true h, q⟩
theorem ptuplel {C : Cells} {ds : List PyData} : pTuple C [.d (.list ds)] = some (.tuple ds) := rfl
theorem rngs_at {lo : Int} {k i : Nat} {av : AV} (h : (rngs lo k)[i]? = some av) : i < k ∧ av = .d (.int (lo + (i : Nat))) := by
  rw [rngs, List.getElem?_map] at h
  cases q : (List.range k)[i]? with
  | none => rw [q] at h; cases h
  | some z =>
    rw [q] at h
    cases h
    obtain ⟨h1, h2⟩ := List.getElem?_eq_some_iff.mp q
    rw [List.length_range] at h1
    rw [List.getElem_range] at h2
    subst h2
    exact ⟨h1, rfl⟩
theorem rngs_len {lo : Int} {k : Nat} : (rngs lo k).length = k := by rw [rngs, List.length_map, List.length_range]
theorem q_lnil {env : Env} {C : Cells} {keep : Cells → Bool} {g : GM} {mb : SM} {D : MEnds} (hk : keep C = true) (q : D.nx env C) : RSt (loop keep g mb (List.map AV.d []) env C) D := ⟨.nx, env, C, by show loop keep g mb [] env C = _; rw [loop, if_pos hk], q⟩
theorem q_lcons {env : Env} {C : Cells} {keep : Cells → Bool} {g : GM} {mb : SM} {D : MEnds} {x : PyData} {xs : List PyData} (hk : keep C = true)
    (q : RG (g (.d x) env C) fun env1 C1 => RSt (mb env1 C1) { D with nx := fun e2 C2 => RSt (loop keep g mb (List.map AV.d xs) e2 C2) D, ct := fun e2 C2 => RSt (loop keep g mb (List.map AV.d xs) e2 C2) D, bk := D.nx }) : RSt (loop keep g mb (List.map AV.d (x :: xs)) env C) D := by
  obtain ⟨e1, C1, h1, fl, e2, C2, h2, q⟩ := q
  show RSt (loop keep g mb (AV.d x :: List.map AV.d xs) env C) D
  rw [loop, if_pos hk, h1]
  show RSt ((mb e1 C1).bind _) D
  cases fl with
  | nx => rw [h2]; exact q
  | ct => rw [h2]; exact q
  | bk => rw [h2]; exact ⟨.nx, e2, C2, rfl, q⟩
  | rt a => rw [h2]; exact ⟨.rt a, e2, C2, rfl, q⟩
theorem toVs_strs : ∀ ws : List Str, toVs (ws.map PyData.str) = some (ws.map V.str)
  | [] => rfl
  | n :: ns => by
    show (toVs (ns.map PyData.str)).bind _ = _
    rw [toVs_strs ns]
    rfl
theorem pin_strs {C : Cells} {s : Str} {ws : List Str} : pIn false C (.d (.str s)) (.d (.tuple (ws.map PyData.str))) = some (.bool (ws.contains s)) := by
  show (toVs (ws.map PyData.str)).bind _ = _
  rw [toVs_strs]
  show some (PyData.bool (if false = true then !inV (.str s) (ws.map V.str) else inV (.str s) (ws.map V.str))) = _
  rw [if_neg Bool.false_ne_true, inV_strs]
theorem pnin_strs {C : Cells} {s : Str} {ws : List Str} : pIn true C (.d (.str s)) (.d (.tuple (ws.map PyData.str))) = some (.bool (!ws.contains s)) := by
  show (toVs (ws.map PyData.str)).bind _ = _
  rw [toVs_strs]
  show some (PyData.bool (if true = true then !inV (.str s) (ws.map V.str) else inV (.str s) (ws.map V.str))) = _
  rw [if_pos rfl, inV_strs]
theorem q_tab {env : Env} {C : Cells} {me : EM} {tab : List (Str × PyData)} {P : AV → Cells → Prop} (q : RE (me env C) fun a C1 => ∃ s x, a = .d (.str s) ∧ tab.lookup s = some x ∧ P (.d x) C1) : RE (mTab tab me env C) P := by
  obtain ⟨a, C1, h1, s, x, rfl, h2, q⟩ := q
  refine ⟨_, _, ?_, q⟩
  unfold mTab mUn
  rw [h1]
  show (tab.lookup s).bind _ = _
  rw [h2]
  rfl
theorem q_inTab {env : Env} {C : Cells} {me : EM} {neg : Bool} {tab : List (Str × PyData)} {P : AV → Cells → Prop} (q : RE (me env C) fun a C1 => ∃ s, a = .d (.str s) ∧ P (.d (.bool (if neg then !(tab.lookup s).isSome else (tab.lookup s).isSome))) C1) : RE (mInTab neg tab me env C) P := by
  obtain ⟨a, C1, h1, s, rfl, q⟩ := q
  refine ⟨_, _, ?_, q⟩
  unfold mInTab mUn
  rw [h1]
  rfl
theorem isi_int_none {C : Cells} : pIsi C [.d .none, .t "int"] = some (.bool false) := isi_int
theorem isi_int_bool {C : Cells} {b : Bool} : pIsi C [.d (.bool b), .t "int"] = some (.bool true) := isi_int
theorem isi_int_int {C : Cells} {i : Int} : pIsi C [.d (.int i), .t "int"] = some (.bool true) := isi_int
theorem isi_int_str {C : Cells} {s : Str} : pIsi C [.d (.str s), .t "int"] = some (.bool false) := isi_int
theorem isi_int_tuple {C : Cells} {ds : List PyData} : pIsi C [.d (.tuple ds), .t "int"] = some (.bool false) := isi_int
theorem isi_int_list {C : Cells} {ds : List PyData} : pIsi C [.d (.list ds), .t "int"] = some (.bool false) := isi_int
theorem isi_bool_none {C : Cells} : pIsi C [.d .none, .t "bool"] = some (.bool false) := isi_bool
theorem isi_bool_bool {C : Cells} {b : Bool} : pIsi C [.d (.bool b), .t "bool"] = some (.bool true) := isi_bool
theorem isi_bool_int {C : Cells} {i : Int} : pIsi C [.d (.int i), .t "bool"] = some (.bool false) := isi_bool
theorem isi_bool_str {C : Cells} {s : Str} : pIsi C [.d (.str s), .t "bool"] = some (.bool false) := isi_bool
theorem isi_bool_tuple {C : Cells} {ds : List PyData} : pIsi C [.d (.tuple ds), .t "bool"] = some (.bool false) := isi_bool
theorem isi_bool_list {C : Cells} {ds : List PyData} : pIsi C [.d (.list ds), .t "bool"] = some (.bool false) := isi_bool
theorem isi_tuple_none {C : Cells} : pIsi C [.d .none, .t "tuple"] = some (.bool false) := isi_tuple
theorem isi_tuple_bool {C : Cells} {b : Bool} : pIsi C [.d (.bool b), .t "tuple"] = some (.bool false) := isi_tuple
theorem isi_tuple_int {C : Cells} {i : Int} : pIsi C [.d (.int i), .t "tuple"] = some (.bool false) := isi_tuple
theorem isi_tuple_str {C : Cells} {s : Str} : pIsi C [.d (.str s), .t "tuple"] = some (.bool false) := isi_tuple
theorem isi_tuple_tuple {C : Cells} {ds : List PyData} : pIsi C [.d (.tuple ds), .t "tuple"] = some (.bool true) := isi_tuple
theorem isi_tuple_list {C : Cells} {ds : List PyData} : pIsi C [.d (.list ds), .t "tuple"] = some (.bool false) := isi_tuple
theorem isi_str_none {C : Cells} : pIsi C [.d .none, .t "str"] = some (.bool false) := isi_str
theorem isi_str_bool {C : Cells} {b : Bool} : pIsi C [.d (.bool b), .t "str"] = some (.bool false) := isi_str
theorem isi_str_int {C : Cells} {i : Int} : pIsi C [.d (.int i), .t "str"] = some (.bool false) := isi_str
theorem isi_str_str {C : Cells} {s : Str} : pIsi C [.d (.str s), .t "str"] = some (.bool true) := isi_str
theorem isi_str_tuple {C : Cells} {ds : List PyData} : pIsi C [.d (.tuple ds), .t "str"] = some (.bool false) := isi_str
theorem isi_str_list {C : Cells} {ds : List PyData} : pIsi C [.d (.list ds), .t "str"] = some (.bool false) := isi_str
theorem isi_list_none {C : Cells} : pIsi C [.d .none, .t "list"] = some (.bool false) := isi_list
theorem isi_list_bool {C : Cells} {b : Bool} : pIsi C [.d (.bool b), .t "list"] = some (.bool false) := isi_list
theorem isi_list_int {C : Cells} {i : Int} : pIsi C [.d (.int i), .t "list"] = some (.bool false) := isi_list
theorem isi_list_str {C : Cells} {s : Str} : pIsi C [.d (.str s), .t "list"] = some (.bool false) := isi_list
theorem isi_list_tuple {C : Cells} {ds : List PyData} : pIsi C [.d (.tuple ds), .t "list"] = some (.bool false) := isi_list
theorem isi_list_list {C : Cells} {ds : List PyData} : pIsi C [.d (.list ds), .t "list"] = some (.bool true) := isi_list
theorem q_asB {b : Bool} {P : Bool → Prop} (q : P b) : RP (asB (.d (.bool b))) P := ⟨b, rfl, q⟩
theorem q_allD {as : List AV} {ds : List PyData} {P : List PyData → Prop} (h : allD as = some ds) (q : P ds) : RP (allD as) P := ⟨ds, h, q⟩
theorem q_isTab {env : Env} {C : Cells} {me : EM} {tab : List (Str × PyData)} {P : AV → Cells → Prop} (q : RE (me env C) fun a C1 => ∃ s, a = .d (.str s) ∧ P (.d (.bool (tab.lookup s).isSome)) C1) : RE (mInTab false tab me env C) P := q_inTab q
theorem q_noTab {env : Env} {C : Cells} {me : EM} {tab : List (Str × PyData)} {P : AV → Cells → Prop} (q : RE (me env C) fun a C1 => ∃ s, a = .d (.str s) ∧ P (.d (.bool (!(tab.lookup s).isSome))) C1) : RE (mInTab true tab me env C) P := q_inTab q
theorem q_str1 {s : Str} {P : Str → Prop} (q : P s) : ∃ t, AV.d (.str s) = .d (.str t) ∧ P t := ⟨s, rfl, q⟩
theorem q_int1 {s : Int} {P : Int → Prop} (q : P s) : ∃ t, AV.d (.int s) = .d (.int t) ∧ P t := ⟨s, rfl, q⟩
end M
namespace M
open PySem PySem.Spec PyProof.Rows L2 Z
theorem RSt.nxm {o : Option (Fl × Env × Cells)} {D : MEnds} {P : Env → Cells → Prop} (h : RSt o { D with nx := P }) (k : ∀ env C, P env C → D.nx env C) : RSt o D := by
  obtain ⟨fl, env, C, e, q⟩ := h
  cases fl with
  | nx => exact ⟨.nx, env, C, e, k _ _ q⟩
  | rt a => exact ⟨.rt a, env, C, e, q⟩
  | bk => exact ⟨.bk, env, C, e, q⟩
  | ct => exact ⟨.ct, env, C, e, q⟩
end M
namespace M
open PySem PySem.Spec PyProof.Rows L2 Z
def accB : Rows → Rows → Rows
  | acc, [] => acc
  | acc, p :: ps => accB (putR acc p.1 ((getR acc p.1).getD 0 + p.2)) ps
def gotR (acc : Rows) (x : PV) : Int := (getR acc x).getD 0
theorem gotR_put {x y : PV} {n : Int} : ∀ {acc : Rows}, gotR (putR acc x n) y = if x = y then n else gotR acc y
  | [] => by
    unfold gotR
    rw [putR, getR, getR]
    by_cases e : x = y
    · rw [if_pos e, if_pos e]; rfl
    · rw [if_neg e, if_neg e]; rfl
  | p :: acc => by
    have ih := gotR_put (x := x) (y := y) (n := n) (acc := acc)
    unfold gotR at ih ⊢
    rw [putR]
    by_cases e : p.1 = x
    · rw [if_pos e, getR, getR]
      by_cases e2 : p.1 = y
      · rw [if_pos e2, if_pos (e.symm.trans e2)]; rfl
      · rw [if_neg e2, if_neg e2, if_neg fun z => e2 (e.trans z)]
    · rw [if_neg e, getR, getR]
      by_cases e2 : p.1 = y
      · rw [if_pos e2, if_pos e2, if_neg fun z => e (e2.trans z.symm)]
      · rw [if_neg e2, if_neg e2, ih]
theorem gotR_acc {x : PV} : ∀ {ps acc : Rows}, gotR (accB acc ps) x = gotR acc x + Z.cnt ps x
  | [], acc => by rw [accB, Z.cnt, Int.add_zero]
  | p :: ps, acc => by
    rw [accB, gotR_acc (ps := ps), gotR_put, Z.cnt]
    by_cases e : p.1 = x
    · rw [if_pos e, if_pos e, ← e]
      unfold gotR
      omega
    · rw [if_neg e, if_neg e]
      omega
theorem accB_snoc : ∀ {ps acc : Rows} {p : Z.Row}, accB acc (ps ++ [p]) = putR (accB acc ps) p.1 (gotR (accB acc ps) p.1 + p.2)
  | [], acc, p => rfl
  | q :: ps, acc, p => by
    rw [List.cons_append, accB, accB, accB_snoc]
theorem accB_len : ∀ {ps acc : Rows}, (accB acc ps).length ≤ acc.length + ps.length
  | [], acc => Nat.le_refl _
  | p :: ps, acc => by
    rw [accB]
    have a := accB_len (ps := ps) (acc := putR acc p.1 ((getR acc p.1).getD 0 + p.2))
    have b := putR_len (r := acc) (x := p.1) (n := (getR acc p.1).getD 0 + p.2)
    rw [List.length_cons]
    omega
theorem accB_keys : ∀ {ps acc : Rows} {q : Z.Row}, q ∈ accB acc ps → (∃ p ∈ acc, p.1 = q.1) ∨ ∃ p ∈ ps, p.1 = q.1
  | [], acc, q, h => .inl ⟨q, h, rfl⟩
  | p :: ps, acc, q, h => by
    rw [accB] at h
    rcases accB_keys h with ⟨p', h1, h2⟩ | ⟨p', h1, h2⟩
    · rcases putR_keys h1 with e | ⟨p'', h3, h4⟩
      · exact .inr ⟨p, List.mem_cons_self, e.symm.trans h2⟩
      · exact .inl ⟨p'', h3, h4.trans h2⟩
    · exact .inr ⟨p', List.mem_cons_of_mem _ h1, h2⟩
theorem getR_mem : ∀ {acc : Rows} {x : PV}, (∃ p ∈ acc, p.1 = x) → ∃ n, getR acc x = some n
  | p :: acc, x, h => by
    rw [getR]
    by_cases e : p.1 = x
    · rw [if_pos e]; exact ⟨_, rfl⟩
    · rw [if_neg e]
      obtain ⟨q, hq, e2⟩ := h
      rcases List.mem_cons.mp hq with rfl | hq
      · exact absurd e2 e
      · exact getR_mem ⟨q, hq, e2⟩
  | [], x, h => by obtain ⟨q, hq, _⟩ := h; cases hq
theorem gotR_none {acc : Rows} {x : PV} (h : ∀ p ∈ acc, p.1 ≠ x) : gotR acc x = 0 := by
  unfold gotR
  rw [getR_none h]
  rfl
/-- the rows told, of the first keys -/
def outR (acc : Rows) (ys : List PV) : Rows := (ys.filter fun y => gotR acc y != 0).map fun y => (y, gotR acc y)
theorem outR_next {acc : Rows} {ys : List PV} {i : Nat} {y : PV} (h : ys[i]? = some y) : outR acc (ys.take (i + 1)) = if gotR acc y = 0 then outR acc (ys.take i) else outR acc (ys.take i) ++ [(y, gotR acc y)] := by
  unfold outR
  rw [List.take_add_one, h, List.filter_append, List.map_append]
  by_cases e : gotR acc y = 0
  · rw [if_pos e]
    have : (Option.toList (some y)).filter (fun y => gotR acc y != 0) = [] := by simp [e]
    rw [this, List.map_nil, List.append_nil]
  · rw [if_neg e]
    have : (Option.toList (some y)).filter (fun y => gotR acc y != 0) = [y] := by simp [e]
    rw [this]
    rfl
theorem cnt_outR {acc : Rows} {x : PV} : ∀ {ys : List PV}, ys.Nodup → Z.cnt (outR acc ys) x = if x ∈ ys then gotR acc x else 0
  | [], _ => by simp [outR, Z.cnt]
  | y :: ys, h => by
    have h0 := List.nodup_cons.mp h
    have ih := cnt_outR (acc := acc) (x := x) h0.2
    by_cases e : gotR acc y = 0
    · have e1 : outR acc (y :: ys) = outR acc ys := by unfold outR; rw [List.filter_cons_of_neg (by simp [e])]
      rw [e1, ih]
      by_cases ex : x = y
      · subst ex
        rw [if_neg h0.1, if_pos List.mem_cons_self, e]
      · simp [ex]
    · have e1 : outR acc (y :: ys) = (y, gotR acc y) :: outR acc ys := by unfold outR; rw [List.filter_cons_of_pos (by simp [e])]; rfl
      rw [e1, Z.cnt, ih]
      by_cases ex : y = x
      · subst ex
        rw [if_pos rfl, if_neg h0.1, if_pos List.mem_cons_self]
        omega
      · have ex2 : ¬ x = y := fun z => ex z.symm
        rw [if_neg ex]
        simp [ex2]
theorem outR_bagged {acc : Rows} : ∀ {ys : List PV}, ys.Nodup → ys.Pairwise (fun x y => PV.lt y x = false) → Bagged (outR acc ys)
  | ys, hn, hs => by
    refine ⟨?_, fun p hp => ?_⟩
    · unfold outR Asc
      rw [List.pairwise_map]
      have both : ys.Pairwise fun x y => PV.lt x y = true := by
        have := hs.and hn
        refine this.imp fun {x y} h => ?_
        rcases PV.lt_tri x y with e | l | l
        · exact absurd e h.2
        · exact l
        · rw [h.1] at l; cases l
      exact List.Pairwise.filter _ both
    · unfold outR at hp
      obtain ⟨y, hy, rfl⟩ := List.mem_map.mp hp
      simpa using (List.mem_filter.mp hy).2
theorem outR_norm {rows : Rows} {ys : List PV} (hn : ((accB [] rows).map (·.1)).Nodup) (hp : ys.Perm ((accB [] rows).map (·.1))) (hs : ys.Pairwise fun x y => PV.lt y x = false) : outR (accB [] rows) ys = norm rows := by
  have hy : ys.Nodup := hp.nodup_iff.mpr hn
  refine (norm_eq (outR_bagged hy hs) fun x => ?_).symm
  rw [cnt_outR hy]
  have e0 : gotR (accB [] rows) x = Z.cnt rows x := by
    rw [gotR_acc]
    show (getR [] x).getD 0 + _ = _
    rw [getR]
    simp
  by_cases hx : x ∈ ys
  · rw [if_pos hx, e0]
  · rw [if_neg hx, ← e0, gotR_none]
    intro p hp' e
    exact hx (hp.mem_iff.mpr (List.mem_map.mpr ⟨p, hp', e⟩))
def tBag (P : Program) (w : World) (K : PySem.W.Frag) : TS :=
  tSeq (tAsg tDNewK (gName 1))
  (tSeq (tFor (iAny K (tVar 0)) (gTup K 2 (gCons (gName 2) (gCons (gName 3) gNil)))
    (tAsg (tOp (rAdd K) (tBagGet P w K (tVar 1) (tVar 2) (tC (.int 0))) (tVar 3)) (gSub (tVar 1) (tVar 2) (rBagSet P w K))))
  (tRet (tCB (wTupOf K) (tCons (tLc (iList K (tCB (rBagSort P w K) (tCons (tVar 1) tNil))) (gName 2) (tTest (tOp (rNeA K) (tOp (rBagIx P w K) (tVar 1) (tVar 2)) (tC (.int 0))))
    (L2.tTup (tCons (tVar 2) (tCons (tOp (rBagIx P w K) (tVar 1) (tVar 2)) tNil))) [2]) tNil))))
theorem bds_at {K : PySem.W.Frag} {H : Hp} : ∀ {xs : List V} {ds : List PyData} {i : Nat} {x : V}, Ds K H xs ds → xs[i]? = some x → ∃ d, ds[i]? = some d ∧ Dd K H x d
  | _, _, i, x, .nil, h => by simp at h
  | _, _, 0, x, .cons h r, e => by cases e; exact ⟨_, rfl, h⟩
  | _, _, i + 1, x, .cons h r, e => by
    obtain ⟨d, e1, e2⟩ := bds_at r (show _ = some x from e)
    exact ⟨d, e1, e2⟩
theorem bagO_up {P : Program} {w : World} {K : PySem.W.Frag} {k : DK} {G H H' : Hp} {a : Addr} {acc : Rows} (B : BagO P w K k G H a acc) (s : Same H H') : BagO P w K k G H' a acc := by
  obtain ⟨sg, hn, hl, hp, c⟩ := B
  refine ⟨sg.trans s, hn, hl, hp, ?_⟩
  rcases c with ⟨e, h⟩ | ⟨e, ⟨h1, h⟩ | ⟨xs, h, r⟩⟩
  · exact .inl ⟨e, s _ _ h⟩
  · exact .inr ⟨e, .inl ⟨h1, s _ _ h⟩⟩
  · exact .inr ⟨e, .inr ⟨xs, s _ _ h, r⟩⟩
theorem same_upd {H H' : Hp} {a : Addr} {o : HO} (s : Same H H') (n : H a = none) : Same H (upd H' a o) := fun b u e => by
  have hb : b ≠ a := fun z => by rw [z, n] at e; cases e
  rw [upd_ne hb]
  exact s b u e
/-- a row: its value, its times -/
theorem row_parts {K : PySem.W.Frag} {G : Hp} {x : V} {p : Z.Row} (h : Dd K G x (encR p)) : ∃ a y, x = .ref a ∧ SqT K G a [y, .int p.2] ∧ Dd K G y (encP p.1) := by
  obtain ⟨a, xs, rfl, hs, hd⟩ := Dd.seqT (show Dd K G x (.tuple [encP p.1, .int p.2]) from h)
  cases hd with
  | cons h1 r =>
    cases r with
    | cons h2 r =>
      cases r
      cases h2
      exact ⟨a, _, rfl, hs, h1⟩
/-- the loop: the rows are gathered -/
theorem bag_loop {P : Program} {w : World} {K : PySem.W.Frag} {G H0 H1 : Hp} {d p : Addr} {xs : List V} {rows : Rows} {k : DK} {D : Ends} {σ : L2.St} (sg : Same G H0) (hd0 : H0 d = none) (gd : G d = none) (e0 : H1 = upd H0 d (.dK []))
    (hx : SqL K H0 p xs ∨ SqT K H0 p xs) (hs : Ds K G xs (rows.map encR)) (hr : ∀ q ∈ rows, hasP k q.1 ∧ pd q.1 ≤ 8) (hl : rows.length < 60)
    (l4 : σ.length = 4) (v0 : σ[0]? = some (some (.ref p))) (v1 : σ[1]? = some (some (.ref d)))
    (q : ∀ σ' H', σ'.length = 4 → σ'[1]? = some (some (.ref d)) → Same H0 H' → BagO P w K k G H' d (accB [] rows) → D.nx σ' H') :
    tFor (iAny K (tVar 0)) (gTup K 2 (gCons (gName 2) (gCons (gName 3) gNil)))
      (tAsg (tOp (rAdd K) (tBagGet P w K (tVar 1) (tVar 2) (tC (.int 0))) (tVar 3)) (gSub (tVar 1) (tVar 2) (rBagSet P w K))) D σ H1 := by
  subst e0
  have s1 : Same H0 (upd H0 d (.dK [])) := same_upd (Same.refl _) hd0
  let Pv : Nat → L2.St → Hp → Prop := fun i σ H => ∃ ob, H = upd H0 d ob ∧ σ.length = 4 ∧ σ[0]? = some (some (.ref p)) ∧ σ[1]? = some (some (.ref d)) ∧ BagO P w K k G H d (accB [] (rows.take i))
  have start : Pv 0 σ (upd H0 d (.dK [])) := by
    refine ⟨_, rfl, l4, v0, v1, sg.trans s1, List.nodup_nil, by show 0 < 64; decide, fun _ z => (nomatch z), ?_⟩
    by_cases ek : k = .num
    · exact .inl ⟨ek, upd_same⟩
    · exact .inr ⟨ek, .inl ⟨rfl, upd_same⟩⟩
  have same_of : ∀ {ob : HO}, Same H0 (upd H0 d ob) := same_upd (Same.refl _) hd0
  have step : ∀ i x σ H, xs[i]? = some x → Pv i σ H → gTup K 2 (gCons (gName 2) (gCons (gName 3) gNil)) x σ H fun σ2 H2 =>
      tAsg (tOp (rAdd K) (tBagGet P w K (tVar 1) (tVar 2) (tC (.int 0))) (tVar 3)) (gSub (tVar 1) (tVar 2) (rBagSet P w K)) { D with nx := Pv (i + 1), ct := Pv (i + 1), bk := D.nx } σ2 H2 := by
    rintro i x σ H hi ⟨ob, rfl, l4, v0, v1, B⟩
    obtain ⟨dd, hdd, hrow⟩ := bds_at hs hi
    rw [List.getElem?_map] at hdd
    cases er : rows[i]? with
    | none => rw [er] at hdd; cases hdd
    | some r =>
      rw [er] at hdd
      cases hdd
      obtain ⟨a, y, rfl, sq, dy⟩ := row_parts hrow
      obtain ⟨hk, h8⟩ := hr r (List.mem_of_getElem? er)
      refine r_gtup (sameT B.1 sq) rfl (r_gcons (r_name (r_gcons (r_name (r_gnil ?_)))))
      have w1 : ((σ.set 2 (some y)).set 3 (some (V.int r.2)))[1]? = some (some (.ref d)) := by
        rw [List.getElem?_set_ne (by decide), List.getElem?_set_ne (by decide)]; exact v1
      have w0 : ((σ.set 2 (some y)).set 3 (some (V.int r.2)))[0]? = some (some (.ref p)) := by
        rw [List.getElem?_set_ne (by decide), List.getElem?_set_ne (by decide)]; exact v0
      have w2 : ((σ.set 2 (some y)).set 3 (some (V.int r.2)))[2]? = some (some y) := by
        rw [List.getElem?_set_ne (by decide), List.getElem?_set_self (by rw [l4]; decide)]
      have w3 : ((σ.set 2 (some y)).set 3 (some (V.int r.2)))[3]? = some (some (V.int r.2)) := by
        rw [List.getElem?_set_self (by rw [List.length_set, l4]; decide)]
      have wl : ((σ.set 2 (some y)).set 3 (some (V.int r.2))).length = 4 := by rw [List.length_set, List.length_set, l4]
      generalize (σ.set 2 (some y)).set 3 (some (V.int r.2)) = σ2 at w0 w1 w2 w3 wl
      have hil : i < rows.length := (List.getElem?_eq_some_iff.mp er).1
      have hlen : (accB [] (rows.take i)).length < 63 := by
        have z := accB_len (ps := rows.take i) (acc := [])
        rw [List.length_take] at z
        have : ([] : Rows).length = 0 := rfl
        omega
      refine r_asg (r_op (r_var w1 ⟨d, k, G, accB [] (rows.take i), rfl, B, r_var w2 (r_c ⟨r.1, B, dy, hk, h8, rfl, r_var w3 (.inl ⟨_, _, rfl, rfl, ?_⟩)⟩)⟩))
      refine r_gsub (r_var w1 (r_var w2 ⟨d, k, G, accB [] (rows.take i), r.1, _, rfl, B, gd, dy, hk, h8, rfl, hlen, fun ob' B' => ?_⟩))
      rw [upd_upd] at B' ⊢
      refine ⟨ob', rfl, wl, w0, w1, ?_⟩
      have et : rows.take (i + 1) = rows.take i ++ [r] := by rw [List.take_add_one, er]; rfl
      rw [et, accB_snoc]
      exact B'
  have fin : ∀ σ H, Pv xs.length σ H → D.nx σ H := by
    rintro σ H ⟨ob, rfl, l4, v0, v1, B⟩
    have el : xs.length = rows.length := by rw [hs.length, List.length_map]
    rw [el, List.take_length] at B
    exact q σ _ l4 v1 same_of B
  rcases hx with hx | hx
  · refine .inr (r_var v0 ⟨p, rfl, ⟨xs, s1.seq hx⟩, for_list Pv start (fun i σ H _ h => ?_) step fin⟩)
    obtain ⟨ob, rfl, _⟩ := h
    exact same_of.seq hx
  · refine .inl (r_var v0 ⟨p, rfl, ⟨xs, sameT s1 hx⟩, for_tup Pv start (fun i σ H _ h => ?_) step fin⟩)
    obtain ⟨ob, rfl, _⟩ := h
    exact sameT same_of hx
theorem offs_cons {ms : Ms} {H : Hp} {D : Addr} {o : HO} : offs (some D :: ms) (upd H D o) = offs (some D :: ms) H := by
  funext b
  by_cases hb : some b ∈ some D :: ms
  · rw [offs_in hb, offs_in hb]
  · rw [offs_out hb, offs_out hb]
    have : b ≠ D := fun z => hb (by rw [z]; exact List.mem_cons_self)
    rw [upd_ne this]
/-- the answer: the keys sorted, with their times -/
theorem bag_ret {P : Program} {w : World} {K : PySem.W.Frag} {ms : Ms} {H0 H : Hp} {d : Addr} {acc : Rows} {k : DK} {Q : VK} {nx : L2.St → Hp → Prop} {bk ct : L2.St → Hp → Prop} {σ : L2.St} (s0 : Same H0 H) (al : ∀ b, some b ∈ ms → H0 b ≠ none)
    (l4 : σ.length = 4) (v1 : σ[1]? = some (some (.ref d))) (B : BagO P w K k (offs ms H0) H d acc) (h8 : ∀ p ∈ acc, pd p.1 ≤ 8)
    (q : ∀ ys v H2, ys.Perm (acc.map (·.1)) → ys.Pairwise (fun x y => PV.lt y x = false) → Same H0 H2 → Dd K (offs ms H2) v (.tuple ((outR acc ys).map encR)) → Q v H2) :
    tRet (tCB (wTupOf K) (tCons (tLc (iList K (tCB (rBagSort P w K) (tCons (tVar 1) tNil))) (gName 2) (tTest (tOp (rNeA K) (tOp (rBagIx P w K) (tVar 1) (tVar 2)) (tC (.int 0))))
      (L2.tTup (tCons (tVar 2) (tCons (tOp (rBagIx P w K) (tVar 1) (tVar 2)) tNil))) [2]) tNil)) ⟨nx, Q, bk, ct⟩ σ H := by
  refine r_ret (r_cb (r_cons ?_))
  show tLc _ _ _ _ _ σ H _
  refine r_cb (r_cons (r_var v1 (r_nil ⟨d, k, offs ms H0, acc, rfl, B, h8, fun ys ws L hperm hord hL hds => ⟨L, rfl, ⟨ws, SqL.of upd_same⟩, fun T hT => ?_⟩⟩)))
  have hTL : T ≠ L := fun z => by rw [z, upd_same] at hT; cases hT
  have hT0 : H T = none := by rw [upd_ne hTL] at hT; exact hT
  have sb : Same H (upd H L (.lst ws)) := new_same _ hL
  generalize hHb : upd H L (.lst ws) = Hb at hT sb
  have eL : Hb L = some (.lst ws) := by rw [← hHb]; exact upd_same
  have elen : ws.length = ys.length := by rw [hds.length, List.length_map]
  have Bb := bagO_up B sb
  have alive : ∀ {H2 : Hp} {b : Addr}, Same Hb H2 → H2 b = none → some b ∉ ms := fun {H2 b} s2 e m => by
    cases e0 : H0 b with
    | none => exact al b m e0
    | some o =>
      have := s2 _ _ (sb _ _ (s0 _ _ e0))
      rw [e] at this
      cases this
  have aliveT : some T ∉ ms := alive (H2 := Hb) (Same.refl _) hT
  have gsame : ∀ {H2 : Hp}, Same Hb H2 → Same (offs ms H0) (offs (some T :: ms) H2) := fun {H2} s2 b o e => by
    by_cases hb : some b ∈ ms
    · rw [offs_in hb] at e; cases e
    · rw [offs_out hb] at e
      have hbT : b ≠ T := fun z => by
        have := sb _ _ (s0 _ _ e)
        rw [z, hT] at this
        cases this
      rw [offs_out (by
        intro m
        rcases List.mem_cons.mp m with z | z
        · exact hbT (Option.some.inj z)
        · exact hb z)]
      exact s2 _ _ (sb _ _ (s0 _ _ e))
  let W : Nat → Nat → Hp → Prop := fun i m H2 => m = ys.length - i ∧ i ≤ ys.length ∧ Same Hb H2 ∧ ∃ got, H2 T = some (.lst got) ∧ Ds K (offs (some T :: ms) H2) got ((outR acc (ys.take i)).map encR)
  have gotlen : ∀ {i : Nat} {H2 : Hp} {got : List V}, Ds K (offs (some T :: ms) H2) got ((outR acc (ys.take i)).map encR) → got.length ≤ 64 := fun {i H2 got} h => by
    have e1 : ys.length = acc.length := by rw [hperm.length_eq, List.length_map]
    have e2 := B.2.2.1
    have e3 := List.length_filter_le (fun y => gotR acc y != 0) (ys.take i)
    have e4 := List.length_take_le i ys
    have e5 := h.length
    unfold outR at e5
    rw [List.length_map, List.length_map] at e5
    have e6 : (ys.take i).length ≤ ys.length := by rw [List.length_take]; omega
    omega
  refine ⟨W, ⟨ys.length, rfl, Nat.zero_le _, ?_, [], upd_same, .nil⟩, ?_⟩
  · exact same_upd (Same.refl _) hT
  rintro i m H2 ⟨rfl, hi, s2, got, eT, dgot⟩
  by_cases hlt : i < ys.length
  · refine .inr ⟨⟨ws, _, SqL.of (s2 _ _ eL), List.getElem?_eq_getElem (show i < ws.length by omega)⟩, W (i + 1) (ys.length - (i + 1)), fun H' h' => ⟨_, by omega, h'⟩, fun x H' y => ?_⟩
    obtain ⟨rfl, y⟩ := y
    have ex := y ws (SqL.of (s2 _ _ eL))
    obtain ⟨dd, e1, dx⟩ := hds.at ex
    rw [List.getElem?_map] at e1
    have ey : ys[i]? = some ys[i] := List.getElem?_eq_getElem hlt
    generalize ys[i] = yv at ey
    rw [ey] at e1
    cases e1
    obtain ⟨p0, hp0, ep0⟩ := List.mem_map.mp (hperm.mem_iff.mp (List.mem_of_getElem? ey))
    have hk : hasP k yv := by rw [← ep0]; exact B.2.2.2.1 p0 hp0
    have hd8 : pd yv ≤ 8 := by rw [← ep0]; exact h8 p0 hp0
    obtain ⟨n, en⟩ := getR_mem ⟨p0, hp0, ep0⟩
    have egot : gotR acc yv = n := by unfold gotR; rw [en]; rfl
    have B2 := bagO_up Bb s2
    refine r_name ⟨?_, ?_⟩
    · rw [wipe_set (by decide), wipe_wipe]
    have u1 : ((wipe σ [2]).set 2 (some x))[1]? = some (some (.ref d)) := by
      rw [List.getElem?_set_ne (by decide)]
      exact (wipe_out (by decide)).trans v1
    have u2 : ((wipe σ [2]).set 2 (some x))[2]? = some (some x) := by
      rw [List.getElem?_set_self (by rw [wipe_length, l4]; decide)]
    generalize (wipe σ [2]).set 2 (some x) = σ2 at u1 u2
    refine r_test (r_op (r_op (r_var u1 (r_var u2 ⟨d, k, _, acc, yv, n, rfl, B2, dx, hk, hd8, en, r_c (.inl ⟨rfl, _, rfl, ?_⟩)⟩))))
    have en2 : (!decide ((V.int n) = V.int 0)) = (n != 0) := by
      by_cases e : n = 0
      · subst e; rfl
      · rw [decide_eq_false (by simpa using e)]
        simp [e]
    rw [en2]
    by_cases e : n = 0
    · have : (n != 0) = false := by simp [e]
      rw [this, if_neg Bool.false_ne_true]
      refine ⟨rfl, hlt, s2, got, eT, ?_⟩
      rw [outR_next ey, egot, if_pos e]
      exact dgot
    · have : (n != 0) = true := by simp [e]
      rw [this, if_pos rfl]
      refine r_tup (r_cons (r_var u2 (r_cons (r_op (r_var u1 (r_var u2 ⟨d, k, _, acc, yv, n, rfl, B2, dx, hk, hd8, en, r_nil ⟨by rw [sizeLine_eq]; show 2 ≤ _; omega, fun t ht => ?_⟩⟩))))))
      have htT : t ≠ T := fun z => by rw [z, eT] at ht; cases ht
      refine ⟨got, by rw [upd_ne htT.symm]; exact eT, by rw [sizeLine_eq]; have := gotlen dgot; omega, rfl, hlt, ?_, _, upd_same, ?_⟩
      · exact same_upd (same_upd s2 (by
          cases e0 : Hb t with
          | none => rfl
          | some o => have := s2 _ _ e0; rw [ht] at this; cases this)) hT
      · rw [outR_next ey, egot, if_neg e, List.map_append, offs_cons]
        have st : Same (offs (some T :: ms) H') (offs (some T :: ms) (upd H' t (.tup [x, .int n]))) := same_offs (new_same _ ht)
        refine (dgot.up st).append (.cons ?_ .nil)
        have tno : some t ∉ some T :: ms := fun m => by
          rcases List.mem_cons.mp m with z | z
          · exact htT (Option.some.inj z)
          · exact alive s2 ht z
        exact .tup (SqT.of (by rw [offs_out tno]; exact upd_same)) (.cons ((dx.up (gsame s2)).up st) (.cons (.int n) .nil))
  · have ei : i = ys.length := by omega
    refine .inl ⟨⟨ws, SqL.of (s2 _ _ eL), by omega⟩, ?_⟩
    refine r_nil ⟨T, got, rfl, .inl ⟨SqL.of eT, fun l hl => ?_⟩⟩
    have s3 : Same H0 (upd H2 l (.tup got)) := same_upd (fun b o e => s2 _ _ (sb _ _ (s0 _ _ e))) (by
      cases e0 : H0 l with
      | none => rfl
      | some o => have := s2 _ _ (sb _ _ (s0 _ _ e0)); rw [hl] at this; cases this)
    refine q ys _ _ hperm hord s3 ?_
    rw [ei, List.take_length] at dgot
    have lno : some l ∉ ms := alive s2 hl
    refine .tup (SqT.of (by rw [offs_out lno]; exact upd_same)) (dgot.up fun b o e => ?_)
    by_cases hb : some b ∈ some T :: ms
    · rw [offs_in hb] at e; cases e
    · rw [offs_out hb] at e
      rw [offs_out fun z => hb (List.mem_cons_of_mem _ z), upd_ne fun z => by rw [z, hl] at e; cases e]
      exact e
theorem encP_one : ∀ {x y : PV}, encP x = encP y → x = y
  | .unit, .unit, _ => rfl
  | .num i, .num j, e => by cases e; rfl
  | .pair a b, .pair c d, e => by
    simp only [encP, PyData.tuple.injEq, List.cons.injEq, and_true, true_and] at e
    rw [encP_one e.1, encP_one e.2]
  | .left a, .left b, e => by
    simp only [encP, PyData.tuple.injEq, List.cons.injEq, and_true, true_and] at e
    rw [encP_one e]
  | .right a, .right b, e => by
    simp only [encP, PyData.tuple.injEq, List.cons.injEq, and_true, true_and] at e
    rw [encP_one e]
  | .unit, .num _, e => by simp [encP] at e
  | .unit, .pair _ _, e => by simp [encP] at e
  | .unit, .left _, e => by simp [encP] at e
  | .unit, .right _, e => by simp [encP] at e
  | .num _, .unit, e => by simp [encP] at e
  | .num _, .pair _ _, e => by simp [encP] at e
  | .num _, .left _, e => by simp [encP] at e
  | .num _, .right _, e => by simp [encP] at e
  | .pair _ _, .unit, e => by simp [encP] at e
  | .pair _ _, .num _, e => by simp [encP] at e
  | .pair _ _, .left _, e => by simp [encP] at e
  | .pair _ _, .right _, e => by simp [encP] at e
  | .left _, .unit, e => by simp [encP] at e
  | .left _, .num _, e => by simp [encP] at e
  | .left _, .pair _ _, e => by simp [encP] at e
  | .left a, .right b, e => by
    simp only [encP, PyData.tuple.injEq, List.cons.injEq, and_true, PyData.str.injEq] at e
    exact absurd e.1 (by decide +kernel)
  | .right _, .unit, e => by simp [encP] at e
  | .right _, .num _, e => by simp [encP] at e
  | .right _, .pair _ _, e => by simp [encP] at e
  | .right a, .left b, e => by
    simp only [encP, PyData.tuple.injEq, List.cons.injEq, and_true, PyData.str.injEq] at e
    exact absurd e.1 (by decide +kernel)
theorem encRs_one : ∀ {r s : Rows}, r.map encR = s.map encR → r = s
  | [], [], _ => rfl
  | p :: r, q :: s, e => by
    rw [List.map_cons, List.map_cons, List.cons.injEq] at e
    have e1 := e.1
    simp only [encR, PyData.tuple.injEq, List.cons.injEq, PyData.int.injEq, and_true] at e1
    rw [encRs_one e.2, Prod.ext (encP_one e1.1) e1.2]
  | [], q :: s, e => by simp at e
  | p :: r, [], e => by simp at e
def Baggable (ds : List PyData) (rows : Rows) : Prop := ∃ k : DK, ds = rows.map encR ∧ (∀ p ∈ rows, hasP k p.1 ∧ pd p.1 ≤ 8) ∧ rows.length < 60
open Classical in
noncomputable def bagD (ds : List PyData) : Option PyData := if h : ∃ rows : Rows, Baggable ds rows then some (.tuple ((norm h.choose).map encR)) else none
open Classical in
theorem bagD_some {ds : List PyData} {z : PyData} (e : bagD ds = some z) : ∃ rows, Baggable ds rows ∧ z = .tuple ((norm rows).map encR) := by
  unfold bagD at e
  split at e
  · rename_i h
    cases e
    exact ⟨_, h.choose_spec, rfl⟩
  · cases e
open Classical in
theorem bagD_at {rows : Rows} {k : DK} (h : ∀ p ∈ rows, hasP k p.1 ∧ pd p.1 ≤ 8) (hl : rows.length < 60) : bagD (rows.map encR) = some (.tuple ((norm rows).map encR)) := by
  have hx : ∃ r : Rows, Baggable (rows.map encR) r := ⟨rows, k, rfl, h, hl⟩
  unfold bagD
  rw [dif_pos hx]
  obtain ⟨_, e, _⟩ := hx.choose_spec
  rw [← encRs_one e]
noncomputable def bagF : FM := fun as C => (one1 as).bind fun a => (a.items C).bind fun ds => (bagD ds).bind fun z => some (.d z, C)
section
variable {P : Program} {w : World} {K : PySem.W.Frag} {mg : Str → Option Value} {base : Heap}
theorem mkBag {x qual : Str} {st : Stmt} {f : Addr} {fd : FuncData} {N ps : List Str} {k : Nat} (F : Fun K x qual st f fd) (S : FnScope N ps (defScope st)) (e1 : ps.length = 1) (e2 : N.length = 4)
    (body : ∀ (cdv : Value) (A : Around) (outer : List PySem.Env) (s : Shared) (H : Hp) (E : XK), NoG (A.deeper (envOfC qual (defScope st) s.heap.objs.size f cdv)) → Room k (A.deeper (envOfC qual (defScope st) s.heap.objs.size f cdv)) →
      PSs (cxOf CX0 P w K mg base N qual (defScope st) f cdv A outer s H E).nox (defBody st) (tBag P w K)) : GOk P w K mg base (k + 1) f fd ps (spM K 1 bagF) := by
  refine GOk.mk' F S (fun vs H Q E h => by rw [e1]; exact h.1) (fun cdv A outer s H vs Q E ng hr h => ⟨_, body cdv A outer s H E ng hr, ?_⟩)
  obtain ⟨hl, ms, C, as, av, C', rc, rv, e, q⟩ := h
  obtain ⟨a, h1, e⟩ := bnd e
  obtain ⟨ds, h2, e⟩ := bnd e
  obtain ⟨z, h3, e⟩ := bnd e
  cases e
  obtain ⟨v, rfl, hv⟩ := one1_some rv h1
  obtain ⟨p, xs, rfl, hx, hd⟩ := hv.items rc h2
  obtain ⟨rows, ⟨kk, rfl, hr8, hlen⟩, rfl⟩ := bagD_some h3
  have es : L2.start N [V.ref p] = [some (V.ref p), none, none, none] := by
    unfold L2.start
    rw [e2]
    rfl
  rw [es]
  have gd : ∀ {d : Addr}, H d = none → offs ms H d = none := fun {d} hd => by
    by_cases hm : some d ∈ ms
    · exact offs_in hm
    · rw [offs_out hm]; exact hd
  refine r_seq (r_asg fun d hd0 => r_name (r_seq (bag_loop (G := offs ms H) (H0 := H) (k := kk) offs_same hd0 (gd hd0) rfl hx hd hr8 hlen rfl rfl rfl fun σ' H' l4 v1 s0 B => ?_)))
  refine bag_ret s0 (fun b hb => rc.alive hb) l4 v1 B (fun p hp => ?_) (fun ys v H2 hperm hord s2 hv2 => ?_)
  · rcases accB_keys hp with ⟨_, hq, _⟩ | ⟨p', h1', h2'⟩
    · cases hq
    · rw [← h2']
      exact (hr8 p' h1').2
  · rw [outR_norm B.2.1 hperm hord] at hv2
    exact q v ms H2 (.of s2) (rc.up s2) hv2
end
section
variable {X : Cx} {k : Nat} {f : Addr} {fd : FuncData} {ps : List Str} {sp : Sp} {dvs : List V} {ds : List Value} {x : Str} {p pos : Pos}
/-- f() -/
theorem pe_callG0 (F : GOk X.prog X.w X.K X.mg X.base k f fd ps sp) (ng : NoG X.A) (hr : Room k X.A) (hg : Gl X x) (hm : X.mg x = some (.ref f)) (hk : PySem.W.keepIn X.K (.ref f) = true) (hb : Binds X.K fd ps ds) (hd : Vals dvs ds)
    (hdb : (x == ("__debug__" : Str)) = false := by decide) : PE X (.Call (.Name x p) [] [] pos) (tCall sp dvs E0 tNil) := by
  refine ⟨fun pins s σ H Q I h => ?_⟩
  refine wpAny_Call_Name_kw (ld_glob I hg hm ?_ hdb)
  refine PySem.W.callWith_K0 I.kIn hk ?_
  have r2 : Vals ([] ++ dvs) ([] ++ ds) := hd
  have q' : sp ([] ++ dvs) H Q E0 := h
  have hl : (([] : List Value) ++ ds).length = ps.length := r2.length.symm.trans (F.len _ _ _ _ q')
  refine wpAny_call (codeAny_mono (F.run X.A ng X.stack s H _ ([] ++ ds) _ Q E0 hr I.env0 (hb s [] I.kIn hl) r2 q') ?_)
  intro z s' hq
  match z, hq with
  | .error _, hq => exact False.elim hq
  | .ok (.ret _), hq => exact I.after hq
  | .ok .next, hq => exact False.elim hq
  | .ok .brk, hq => exact False.elim hq
  | .ok .cont, hq => exact False.elim hq
end
theorem u20 {A : Around} (h : A.units + 80 < cLine) : A.units + 20 < cLine := by omega
def wDivmodW (xs : List V) (H : Hp) (Q : VK) : Prop := ∃ i j, xs = [.int i, .int j] ∧ CDivW i j ∧ ∀ p, H p = none → Q (.ref p) (upd H p (.tup [.int (i / j), .int (i % j)]))
theorem c_divmodW {X : Cx} : CallR X (.builtin "divmod") wDivmodW := by
  intro pins s σ H xs us Q I r h
  obtain ⟨i, j, e, hc, q⟩ := h
  exact call_divmodW pins s σ H xs us Q I r ⟨i, j, e, ⟨hc.1, PyProof.noPylong_of_log2 hc.2⟩, q⟩
open Classical in
noncomputable def pDivmodW : Cells → List AV → Option PyData := p2 fun _ a b => (asI a).bind fun i => (asI b).bind fun j => if CDivW i j then some (.tuple [.int (i / j), .int (i % j)]) else none
open Classical in
theorem rn_divmodW {K : PySem.W.Frag} : Rnv K wDivmodW pDivmodW := rn2 fun ms C H x y a b z Q rc h1 h2 e q => by
  obtain ⟨i, e1, e⟩ := bnd e
  obtain ⟨j, e2, e⟩ := bnd e
  have e : (if CDivW i j then some (PyData.tuple [.int (i / j), .int (i % j)]) else none) = some z := e
  by_cases hc : CDivW i j
  · rw [if_pos hc] at e
    cases e
    cases asI_some h1 e1
    cases asI_some h2 e2
    exact ⟨i, j, rfl, hc, fun p hp => q _ _ (new_same _ hp) (made_ms rc hp (.cons (.int _) (.cons (.int _) .nil)))⟩
  · rw [if_neg hc] at e
    cases e
open Classical in
theorem pdivmodWi {C : Cells} {i j : Int} (h0 : 0 < j) (h1 : j < 2 ^ 60) : pDivmodW C [.d (.int i), .d (.int j)] = some (.tuple [.int (i / j), .int (i % j)]) := by
  have hc : CDivW i j := wide_div (b := 60) h0 (by omega) (by decide) (by decide)
  show (if CDivW i j then some (PyData.tuple [.int (i / j), .int (i % j)]) else none) = _
  rw [if_pos hc]
end M
namespace M
open PySem PySem.Spec PyProof.Rows L2 Z
def rNoBl : R2 := fun x y H Q => ∃ a b : Bool, x = .bl a ∧ y = .bl b ∧ Q (.bl (!decide (a = b))) H
def pNoB (C : Cells) (a b : AV) : Option PyData := match a, b with
  | .d (.bool x), .d (.bool y) => some (.bool (!decide (x = y)))
  | _, _ => none
theorem r2_noB {K : PySem.W.Frag} : R2v K rNoBl pNoB := by
  intro ms C H x y a b z Q rc h1 h2 e q
  match a, b, e, h1, h2 with
  | .d (.bool x'), .d (.bool y'), e, h1, h2 =>
    cases e
    have h1' : Dd K (offs ms H) x (.bool x') := h1
    have h2' : Dd K (offs ms H) y (.bool y') := h2
    cases h1'
    cases h2'
    exact ⟨x', y', rfl, rfl, q _ H (Same.refl H) (.bl _)⟩
theorem pnoB {C : Cells} {x y : Bool} : pNoB C (.d (.bool x)) (.d (.bool y)) = some (.bool (!decide (x = y))) := rfl
section
variable {X : Cx}
theorem op_noBv : OpR X (compareOp .IsNot) rNoBl := L2.op_notBl
end
end M
namespace N25
open PySem PySem.Spec PyProof.Rows L2 Z M
def top (i : Nat) : Stmt := PySem.Challenge.pw_changewise_k25_whole_one_change_behind_t.main.body.getD i (.Pass ⟨0, 0, 0, 0⟩)
structure Dfn (K : PySem.W.Frag) (mg : Str → Option Value) (x : Str) (st : Stmt) (ps : List Str) (f : Addr) (fd : FuncData) : Prop where
  F : Fun K x x st f fd
  m : mg x = some (.ref f)
  b : Binds K fd ps []
structure B0 (mg : Str → Option Value) : Prop where
  abs : mg "abs" = none
  bool : mg "bool" = none
  divmod : mg "divmod" = none
  int : mg "int" = none
  isinstance : mg "isinstance" = none
  len : mg "len" = none
  list : mg "list" = none
  max : mg "max" = none
  min : mg "min" = none
  range : mg "range" = none
  repr : mg "repr" = none
  sorted : mg "sorted" = none
  str : mg "str" = none
  tuple : mg "tuple" = none
  zip : mg "zip" = none
def c__DATA_WORDS : PyData := (.tuple [(.str "unit"), (.str "num"), (.str "pair"), (.str "either"), (.str "bag")])
def c__PARTS : List (Str × PyData) := [("unit", (.int 0)), ("num", (.int 0)), ("pair", (.int 2)), ("either", (.int 2)), ("bag", (.int 1)), ("fun", (.int 2))]
def c__PLAIN_WORDS : PyData := (.tuple [(.str "unit"), (.str "num"), (.str "pair"), (.str "either")])
noncomputable def m__has_form : Nat → FM
  | 0 => fun _ _ => none
  | n + 1 => mFun 1 1 ((sSeq (sIf (mOr (mNot (mTest (mCB pIsi (aCons (mVar 0) (aCons (mTy "tuple") aNil))))) (mTest (mOp pEq (mCB pLen (aCons (mVar 0) aNil)) (mC (.int 0))))) (sRet (mC (.bool false))) sNext)
    (sSeq (sIf (mOr (mNot (mTest (mCB pIsi (aCons (mOp pIx (mVar 0) (mC (.int 0))) (aCons (mTy "str") aNil))))) (mTest (mInTab true c__PARTS (mOp pIx (mVar 0) (mC (.int 0)))))) (sRet (mC (.bool false))) sNext)
    (sRet (mOp pEq (mCB pLen (aCons (mVar 0) aNil)) (mOp pAdd (mC (.int 1)) (mTab c__PARTS (mOp pIx (mVar 0) (mC (.int 0))))))))))
noncomputable def m__is_made_of : Nat → FM
  | 0 => fun _ _ => none
  | n + 1 => mFun 2 3 ((sSeq (sIf (mTest (mOp (pIn true) (mOp pIx (mVar 0) (mC (.int 0))) (mVar 1))) (sRet (mC (.bool false))) sNext)
    (sSeq (sFor (iA (mSl pSl (mVar 0) (oSome (mC (.int 1))) oNone)) (gmName 2) (sIf (mNot (mTest (mCall 2 (m__is_made_of n) (aCons (mVar 2) (aCons (mVar 1) aNil))))) (sRet (mC (.bool false))) sNext))
    (sRet (mC (.bool true))))))
noncomputable def m__is_kind_within : Nat → FM
  | 0 => fun _ _ => none
  | n + 1 => mFun 2 3 ((sSeq (sIf (mOr (mTest (mOp pEq (mVar 1) (mC (.int 0)))) (mNot (mTest (mCall 1 (m__has_form n) (aCons (mVar 0) aNil))))) (sRet (mC (.bool false))) sNext)
    (sSeq (sFor (iA (mSl pSl (mVar 0) (oSome (mC (.int 1))) oNone)) (gmName 2) (sIf (mNot (mTest (mCall 2 (m__is_kind_within n) (aCons (mVar 2) (aCons (mOp pSub (mVar 1) (mC (.int 1))) aNil))))) (sRet (mC (.bool false))) sNext))
    (sRet (mOrV (mOp pNe (mOp pIx (mVar 0) (mC (.int 0))) (mC (.str "bag"))) (mCall 2 (m__is_made_of n) (aCons (mOp pIx (mVar 0) (mC (.int 1))) (aCons (mC c__PLAIN_WORDS) aNil))))))))
noncomputable def m_is_kind : Nat → FM
  | 0 => fun _ _ => none
  | n + 1 => mFun 1 1 ((sRet (mCall 2 (m__is_kind_within n) (aCons (mVar 0) (aCons (mC (.int 100)) aNil)))))
noncomputable def m_is_known_data : Nat → FM
  | 0 => fun _ _ => none
  | n + 1 => mFun 1 1 ((sRet (mCall 2 (m__is_made_of n) (aCons (mVar 0) (aCons (mC c__DATA_WORDS) aNil)))))
noncomputable def m_is_data_kind : Nat → FM
  | 0 => fun _ _ => none
  | n + 1 => mFun 1 1 ((sRet (mAndV (mCall 1 (m_is_kind n) (aCons (mVar 0) aNil)) (mCall 1 (m_is_known_data n) (aCons (mVar 0) aNil)))))
noncomputable def m_gathered : Nat → FM
  | 0 => fun _ _ => none
  | n + 1 => mFun 1 5 ((sSeq (sAsg (mLstC aNil) (gmName 1))
    (sSeq (sFor (iA (mCB pSortR (aCons (mVar 0) aNil))) (gmTup 2 (gmCons (gmName 2) (gmCons (gmName 3) gmNil))) (sIf (mAnd (mTru (mVar 1)) (mTest (mOp pEq (mOp pIx (mOp pIx (mVar 1) (mUn pNeg (mC (.int 1)))) (mC (.int 0))) (mVar 2)))) (sAsg (mTup (aCons (mVar 2) (aCons (mOp pAdd (mOp pIx (mOp pIx (mVar 1) (mUn pNeg (mC (.int 1)))) (mC (.int 1))) (mVar 3)) aNil))) (gmSub (mVar 1) (mUn pNeg (mC (.int 1))))) (sDrop (mApp (mVar 1) (aCons (mTup (aCons (mVar 2) (aCons (mVar 3) aNil))) aNil)))))
    (sRet (mCB pTuple (aCons (mLc (iA (mVar 1)) (gmName 4) (mTest (mOp pNe (mOp pIx (mVar 4) (mC (.int 1))) (mC (.int 0)))) (mVar 4) [4]) aNil))))))
noncomputable def m_plus_in : Nat → FM
  | 0 => fun _ _ => none
  | n + 1 => mFun 3 3 ((sSeq (sIf (mTest (mOp pEq (mOp pIx (mVar 0) (mC (.int 0))) (mC (.str "num")))) (sRet (mOp pAdd (mVar 1) (mVar 2))) sNext)
    (sSeq (sIf (mTest (mOp pEq (mOp pIx (mVar 0) (mC (.int 0))) (mC (.str "bag")))) (sRet (mCall 1 (m_gathered n) (aCons (mOp pAdd (mVar 1) (mVar 2)) aNil))) sNext)
    (sRet (mTup (aCons (mC (.str "pair")) (aCons (mCall 3 (m_plus_in n) (aCons (mOp pIx (mVar 0) (mC (.int 1))) (aCons (mOp pIx (mVar 1) (mC (.int 1))) (aCons (mOp pIx (mVar 2) (mC (.int 1))) aNil)))) (aCons (mCall 3 (m_plus_in n) (aCons (mOp pIx (mVar 0) (mC (.int 2))) (aCons (mOp pIx (mVar 1) (mC (.int 2))) (aCons (mOp pIx (mVar 2) (mC (.int 2))) aNil)))) aNil))))))))
noncomputable def m__bag_times : Nat → FM
  | 0 => fun _ _ => none
  | n + 1 => mFun 2 4 ((sSeq (sIf (mTest (mOp pEq (mVar 0) (mC (.int 0)))) (sRet (mTup aNil)) sNext)
    (sRet (mCB pTuple (aCons (mLc (iA (mVar 1)) (gmTup 2 (gmCons (gmName 2) (gmCons (gmName 3) gmNil))) mYes (mTup (aCons (mVar 2) (aCons (mOp pMul (mVar 0) (mVar 3)) aNil))) [2, 3]) aNil)))))
noncomputable def m_times_in : Nat → FM
  | 0 => fun _ _ => none
  | n + 1 => mFun 3 3 ((sSeq (sIf (mTest (mOp pEq (mOp pIx (mVar 0) (mC (.int 0))) (mC (.str "num")))) (sRet (mOp pMul (mVar 1) (mVar 2))) sNext)
    (sSeq (sIf (mTest (mOp pEq (mOp pIx (mVar 0) (mC (.int 0))) (mC (.str "bag")))) (sRet (mCall 2 (m__bag_times n) (aCons (mVar 1) (aCons (mVar 2) aNil)))) sNext)
    (sRet (mTup (aCons (mC (.str "pair")) (aCons (mCall 3 (m_times_in n) (aCons (mOp pIx (mVar 0) (mC (.int 1))) (aCons (mVar 1) (aCons (mOp pIx (mVar 2) (mC (.int 1))) aNil)))) (aCons (mCall 3 (m_times_in n) (aCons (mOp pIx (mVar 0) (mC (.int 2))) (aCons (mVar 1) (aCons (mOp pIx (mVar 2) (mC (.int 2))) aNil)))) aNil))))))))
noncomputable def m_kind_of_changes : Nat → FM
  | 0 => fun _ _ => none
  | n + 1 => mFun 1 1 ((sSeq (sIf (mTest (mOp pEq (mOp pIx (mVar 0) (mC (.int 0))) (mC (.str "pair")))) (sRet (mTup (aCons (mC (.str "pair")) (aCons (mCall 1 (m_kind_of_changes n) (aCons (mOp pIx (mVar 0) (mC (.int 1))) aNil)) (aCons (mCall 1 (m_kind_of_changes n) (aCons (mOp pIx (mVar 0) (mC (.int 2))) aNil)) aNil))))) sNext)
    (sSeq (sIf (mTest (mOp pEq (mOp pIx (mVar 0) (mC (.int 0))) (mC (.str "either")))) (sRet (mTup (aCons (mC (.str "either")) (aCons (mTup (aCons (mC (.str "either")) (aCons (mCall 1 (m_kind_of_changes n) (aCons (mOp pIx (mVar 0) (mC (.int 1))) aNil)) (aCons (mCall 1 (m_kind_of_changes n) (aCons (mOp pIx (mVar 0) (mC (.int 2))) aNil)) aNil)))) (aCons (mVar 0) aNil))))) sNext)
    (sSeq (sIf (mTest (mOp pEq (mOp pIx (mVar 0) (mC (.int 0))) (mC (.str "fun")))) (sRet (mTup (aCons (mC (.str "fun")) (aCons (mOp pIx (mVar 0) (mC (.int 1))) (aCons (mTup (aCons (mC (.str "fun")) (aCons (mCall 1 (m_kind_of_changes n) (aCons (mOp pIx (mVar 0) (mC (.int 1))) aNil)) (aCons (mCall 1 (m_kind_of_changes n) (aCons (mOp pIx (mVar 0) (mC (.int 2))) aNil)) aNil)))) aNil))))) sNext)
    (sRet (mVar 0))))))
noncomputable def m__side_kind : Nat → FM
  | 0 => fun _ _ => none
  | n + 1 => mFun 2 2 ((sRet (mIf (mTest (mOp pEq (mOp pIx (mVar 1) (mC (.int 0))) (mC (.str "left")))) (mOp pIx (mVar 0) (mC (.int 1))) (mOp pIx (mVar 0) (mC (.int 2))))))
noncomputable def m_fits_in : Nat → FM
  | 0 => fun _ _ => none
  | n + 1 => mFun 3 4 ((sSeq (sIf (mTest (mOp pEq (mOp pIx (mVar 0) (mC (.int 0))) (mC (.str "pair")))) (sRet (mAndV (mCall 3 (m_fits_in n) (aCons (mOp pIx (mVar 0) (mC (.int 1))) (aCons (mOp pIx (mVar 1) (mC (.int 1))) (aCons (mOp pIx (mVar 2) (mC (.int 1))) aNil)))) (mCall 3 (m_fits_in n) (aCons (mOp pIx (mVar 0) (mC (.int 2))) (aCons (mOp pIx (mVar 1) (mC (.int 2))) (aCons (mOp pIx (mVar 2) (mC (.int 2))) aNil)))))) sNext)
    (sSeq (sIf (mAnd (mTest (mOp pEq (mOp pIx (mVar 0) (mC (.int 0))) (mC (.str "either")))) (mTest (mOp pEq (mOp pIx (mVar 2) (mC (.int 0))) (mC (.str "left"))))) (sSeq (sAsg (mOp pIx (mVar 2) (mC (.int 1))) (gmName 3))
    (sRet (mAndV (mOp pEq (mOp pIx (mVar 3) (mC (.int 0))) (mOp pIx (mVar 1) (mC (.int 0)))) (mCall 3 (m_fits_in n) (aCons (mCall 2 (m__side_kind n) (aCons (mVar 0) (aCons (mVar 1) aNil))) (aCons (mOp pIx (mVar 1) (mC (.int 1))) (aCons (mOp pIx (mVar 3) (mC (.int 1))) aNil))))))) sNext)
    (sRet (mC (.bool true))))))
mutual
noncomputable def m_led_in : Nat → FM
  | 0 => fun _ _ => none
  | n + 1 => mFun 3 3 ((sSeq (sIf (mTest (mOp pEq (mOp pIx (mVar 0) (mC (.int 0))) (mC (.str "unit")))) (sRet (mTup aNil)) sNext)
    (sSeq (sIf (mTest (mOp pEq (mOp pIx (mVar 0) (mC (.int 0))) (mC (.str "pair")))) (sRet (mTup (aCons (mC (.str "pair")) (aCons (mCall 3 (m_led_in n) (aCons (mOp pIx (mVar 0) (mC (.int 1))) (aCons (mOp pIx (mVar 1) (mC (.int 1))) (aCons (mOp pIx (mVar 2) (mC (.int 1))) aNil)))) (aCons (mCall 3 (m_led_in n) (aCons (mOp pIx (mVar 0) (mC (.int 2))) (aCons (mOp pIx (mVar 1) (mC (.int 2))) (aCons (mOp pIx (mVar 2) (mC (.int 2))) aNil)))) aNil))))) sNext)
    (sSeq (sIf (mTest (mOp pEq (mOp pIx (mVar 0) (mC (.int 0))) (mC (.str "either")))) (sRet (mCall 3 (m__led_side n) (aCons (mVar 0) (aCons (mVar 1) (aCons (mVar 2) aNil))))) sNext)
    (sRet (mCall 3 (m_plus_in n) (aCons (mVar 0) (aCons (mVar 1) (aCons (mVar 2) aNil)))))))))
noncomputable def m__led_side : Nat → FM
  | 0 => fun _ _ => none
  | n + 1 => mFun 3 4 ((sSeq (sIf (mTest (mOp pEq (mOp pIx (mVar 2) (mC (.int 0))) (mC (.str "right")))) (sRet (mOp pIx (mVar 2) (mC (.int 1)))) sNext)
    (sSeq (sAsg (mOp pIx (mVar 2) (mC (.int 1))) (gmName 3))
    (sSeq (sIf (mTest (mOp pNe (mOp pIx (mVar 3) (mC (.int 0))) (mOp pIx (mVar 1) (mC (.int 0))))) (sRet (mVar 1)) sNext)
    (sRet (mTup (aCons (mOp pIx (mVar 1) (mC (.int 0))) (aCons (mCall 3 (m_led_in n) (aCons (mCall 2 (m__side_kind n) (aCons (mVar 0) (aCons (mVar 1) aNil))) (aCons (mOp pIx (mVar 1) (mC (.int 1))) (aCons (mOp pIx (mVar 3) (mC (.int 1))) aNil)))) aNil))))))))
end
noncomputable def m_less_in : Nat → FM
  | 0 => fun _ _ => none
  | n + 1 => mFun 3 3 ((sSeq (sIf (mTest (mOp pEq (mOp pIx (mVar 0) (mC (.int 0))) (mC (.str "unit")))) (sRet (mTup aNil)) sNext)
    (sSeq (sIf (mTest (mOp pEq (mOp pIx (mVar 0) (mC (.int 0))) (mC (.str "pair")))) (sRet (mTup (aCons (mC (.str "pair")) (aCons (mCall 3 (m_less_in n) (aCons (mOp pIx (mVar 0) (mC (.int 1))) (aCons (mOp pIx (mVar 1) (mC (.int 1))) (aCons (mOp pIx (mVar 2) (mC (.int 1))) aNil)))) (aCons (mCall 3 (m_less_in n) (aCons (mOp pIx (mVar 0) (mC (.int 2))) (aCons (mOp pIx (mVar 1) (mC (.int 2))) (aCons (mOp pIx (mVar 2) (mC (.int 2))) aNil)))) aNil))))) sNext)
    (sSeq (sIf (mTest (mOp pEq (mOp pIx (mVar 0) (mC (.int 0))) (mC (.str "either")))) (sSeq (sIf (mTest (mOp pNe (mOp pIx (mVar 1) (mC (.int 0))) (mOp pIx (mVar 2) (mC (.int 0))))) (sRet (mTup (aCons (mC (.str "right")) (aCons (mVar 1) aNil)))) sNext)
    (sRet (mTup (aCons (mC (.str "left")) (aCons (mTup (aCons (mOp pIx (mVar 1) (mC (.int 0))) (aCons (mCall 3 (m_less_in n) (aCons (mCall 2 (m__side_kind n) (aCons (mVar 0) (aCons (mVar 1) aNil))) (aCons (mOp pIx (mVar 1) (mC (.int 1))) (aCons (mOp pIx (mVar 2) (mC (.int 1))) aNil)))) aNil))) aNil))))) sNext)
    (sRet (mCall 3 (m_plus_in n) (aCons (mVar 0) (aCons (mVar 1) (aCons (mCall 3 (m_times_in n) (aCons (mVar 0) (aCons (mUn pNeg (mC (.int 1))) (aCons (mVar 2) aNil)))) aNil)))))))))
mutual
noncomputable def m_joined_in : Nat → FM
  | 0 => fun _ _ => none
  | n + 1 => mFun 4 5 ((sSeq (sIf (mTest (mOp pEq (mOp pIx (mVar 0) (mC (.int 0))) (mC (.str "unit")))) (sRet (mTup aNil)) sNext)
    (sSeq (sIf (mTest (mOp pEq (mOp pIx (mVar 0) (mC (.int 0))) (mC (.str "pair")))) (sSeq (sAsg (mCall 4 (m_joined_in n) (aCons (mOp pIx (mVar 0) (mC (.int 1))) (aCons (mOp pIx (mVar 1) (mC (.int 1))) (aCons (mOp pIx (mVar 2) (mC (.int 1))) (aCons (mOp pIx (mVar 3) (mC (.int 1))) aNil))))) (gmName 4))
    (sRet (mTup (aCons (mC (.str "pair")) (aCons (mVar 4) (aCons (mCall 4 (m_joined_in n) (aCons (mOp pIx (mVar 0) (mC (.int 2))) (aCons (mOp pIx (mVar 1) (mC (.int 2))) (aCons (mOp pIx (mVar 2) (mC (.int 2))) (aCons (mOp pIx (mVar 3) (mC (.int 2))) aNil))))) aNil)))))) sNext)
    (sSeq (sIf (mTest (mOp pEq (mOp pIx (mVar 0) (mC (.int 0))) (mC (.str "either")))) (sRet (mCall 4 (m__joined_sides n) (aCons (mVar 0) (aCons (mVar 1) (aCons (mVar 2) (aCons (mVar 3) aNil)))))) sNext)
    (sRet (mCall 3 (m_plus_in n) (aCons (mVar 0) (aCons (mVar 2) (aCons (mVar 3) aNil)))))))))
noncomputable def m__joined_sides : Nat → FM
  | 0 => fun _ _ => none
  | n + 1 => mFun 4 5 ((sSeq (sIf (mTest (mOp pEq (mOp pIx (mVar 3) (mC (.int 0))) (mC (.str "right")))) (sRet (mVar 3)) sNext)
    (sSeq (sIf (mTest (mOp pEq (mOp pIx (mVar 2) (mC (.int 0))) (mC (.str "right")))) (sRet (mTup (aCons (mC (.str "right")) (aCons (mCall 3 (m_led_in n) (aCons (mVar 0) (aCons (mOp pIx (mVar 2) (mC (.int 1))) (aCons (mVar 3) aNil)))) aNil)))) sNext)
    (sSeq (sAsg (mCall 4 (m_joined_in n) (aCons (mCall 2 (m__side_kind n) (aCons (mVar 0) (aCons (mVar 1) aNil))) (aCons (mOp pIx (mVar 1) (mC (.int 1))) (aCons (mOp pIx (mOp pIx (mVar 2) (mC (.int 1))) (mC (.int 1))) (aCons (mOp pIx (mOp pIx (mVar 3) (mC (.int 1))) (mC (.int 1))) aNil))))) (gmName 4))
    (sRet (mTup (aCons (mC (.str "left")) (aCons (mTup (aCons (mOp pIx (mVar 1) (mC (.int 0))) (aCons (mVar 4) aNil))) aNil))))))))
end
noncomputable def m_back_in : Nat → FM
  | 0 => fun _ _ => none
  | n + 1 => mFun 3 3 ((sRet (mCall 3 (m_less_in n) (aCons (mVar 0) (aCons (mVar 1) (aCons (mCall 3 (m_led_in n) (aCons (mVar 0) (aCons (mVar 1) (aCons (mVar 2) aNil)))) aNil))))))
noncomputable def m_is_whole : Nat → FM
  | 0 => fun _ _ => none
  | n + 1 => mFun 1 1 ((sRet (mAndV (mCB pIsi (aCons (mVar 0) (aCons (mTy "int") aNil))) (mNotV (mCB pIsi (aCons (mVar 0) (aCons (mTy "bool") aNil)))))))
noncomputable def m__begins : Nat → FM
  | 0 => fun _ _ => none
  | n + 1 => mFun 3 3 ((sRet (mAndV (mOp pEq (mCB pLen (aCons (mVar 0) aNil)) (mVar 2)) (mAndV (mCB pIsi (aCons (mOp pIx (mVar 0) (mC (.int 0))) (aCons (mTy "str") aNil))) (mOp pEq (mOp pIx (mVar 0) (mC (.int 0))) (mVar 1))))))
mutual
noncomputable def m_is_of : Nat → FM
  | 0 => fun _ _ => none
  | n + 1 => mFun 2 2 ((sSeq (sIf (mTest (mOp pEq (mOp pIx (mVar 0) (mC (.int 0))) (mC (.str "num")))) (sRet (mCall 1 (m_is_whole n) (aCons (mVar 1) aNil))) sNext)
    (sSeq (sIf (mNot (mTest (mCB pIsi (aCons (mVar 1) (aCons (mTy "tuple") aNil))))) (sRet (mC (.bool false))) sNext)
    (sSeq (sIf (mTest (mOp pEq (mOp pIx (mVar 0) (mC (.int 0))) (mC (.str "unit")))) (sRet (mOp pEq (mCB pLen (aCons (mVar 1) aNil)) (mC (.int 0)))) sNext)
    (sSeq (sIf (mTest (mOp pEq (mOp pIx (mVar 0) (mC (.int 0))) (mC (.str "bag")))) (sRet (mCall 2 (m__is_bag n) (aCons (mOp pIx (mVar 0) (mC (.int 1))) (aCons (mVar 1) aNil)))) sNext)
    (sSeq (sIf (mTest (mOp pEq (mOp pIx (mVar 0) (mC (.int 0))) (mC (.str "pair")))) (sRet (mAndV (mCall 3 (m__begins n) (aCons (mVar 1) (aCons (mC (.str "pair")) (aCons (mC (.int 3)) aNil)))) (mAndV (mCall 2 (m_is_of n) (aCons (mOp pIx (mVar 0) (mC (.int 1))) (aCons (mOp pIx (mVar 1) (mC (.int 1))) aNil))) (mCall 2 (m_is_of n) (aCons (mOp pIx (mVar 0) (mC (.int 2))) (aCons (mOp pIx (mVar 1) (mC (.int 2))) aNil)))))) sNext)
    (sSeq (sIf (mTest (mCall 3 (m__begins n) (aCons (mVar 1) (aCons (mC (.str "left")) (aCons (mC (.int 2)) aNil))))) (sRet (mCall 2 (m_is_of n) (aCons (mOp pIx (mVar 0) (mC (.int 1))) (aCons (mOp pIx (mVar 1) (mC (.int 1))) aNil)))) sNext)
    (sRet (mAndV (mCall 3 (m__begins n) (aCons (mVar 1) (aCons (mC (.str "right")) (aCons (mC (.int 2)) aNil)))) (mCall 2 (m_is_of n) (aCons (mOp pIx (mVar 0) (mC (.int 2))) (aCons (mOp pIx (mVar 1) (mC (.int 1))) aNil))))))))))))
noncomputable def m__is_bag : Nat → FM
  | 0 => fun _ _ => none
  | n + 1 => mFun 2 5 ((sSeq (sFor (iA (mVar 1)) (gmName 2) (sIf (mOr (mNot (mTest (mCall 2 (m__is_counted n) (aCons (mVar 0) (aCons (mVar 2) aNil))))) (mTest (mOp pEq (mOp pIx (mVar 2) (mC (.int 1))) (mC (.int 0))))) (sRet (mC (.bool false))) sNext))
    (sSeq (sFor (iZ (aCons (mVar 1) (aCons (mSl pSl (mVar 1) (oSome (mC (.int 1))) oNone) aNil))) (gmTup 2 (gmCons (gmName 3) (gmCons (gmName 4) gmNil))) (sIf (mNot (mTest (mOp pLt (mOp pIx (mVar 3) (mC (.int 0))) (mOp pIx (mVar 4) (mC (.int 0)))))) (sRet (mC (.bool false))) sNext))
    (sRet (mC (.bool true))))))
noncomputable def m__is_counted : Nat → FM
  | 0 => fun _ _ => none
  | n + 1 => mFun 2 2 ((sSeq (sIf (mOr (mNot (mTest (mCB pIsi (aCons (mVar 1) (aCons (mTy "tuple") aNil))))) (mTest (mOp pNe (mCB pLen (aCons (mVar 1) aNil)) (mC (.int 2))))) (sRet (mC (.bool false))) sNext)
    (sRet (mAndV (mCall 2 (m_is_of n) (aCons (mVar 0) (aCons (mOp pIx (mVar 1) (mC (.int 0))) aNil))) (mCall 1 (m_is_whole n) (aCons (mOp pIx (mVar 1) (mC (.int 1))) aNil))))))
end
noncomputable def m_check_value : Nat → FM
  | 0 => fun _ _ => none
  | n + 1 => mFun 2 2 ((sIf (mNot (mTest (mCall 2 (m_is_of n) (aCons (mVar 0) (aCons (mVar 1) aNil))))) sBad sNext))
noncomputable def m__check_data_kind : Nat → FM
  | 0 => fun _ _ => none
  | n + 1 => mFun 1 1 ((sIf (mNot (mTest (mCall 1 (m_is_data_kind n) (aCons (mVar 0) aNil)))) sBad sNext))
noncomputable def m__check_all : Nat → FM
  | 0 => fun _ _ => none
  | n + 1 => mFun 3 5 ((sSeq (sDrop (mCall 1 (m__check_data_kind n) (aCons (mVar 0) aNil)))
    (sSeq (sFor (iA (mVar 1)) (gmName 3) (sDrop (mCall 2 (m_check_value n) (aCons (mVar 0) (aCons (mVar 3) aNil)))))
    (sFor (iA (mVar 2)) (gmName 4) (sIf (mNot (mTest (mCall 2 (m_is_of n) (aCons (mCall 1 (m_kind_of_changes n) (aCons (mVar 0) aNil)) (aCons (mVar 4) aNil))))) sBad sNext)))))
noncomputable def m_fits : Nat → FM
  | 0 => fun _ _ => none
  | n + 1 => mFun 3 3 ((sSeq (sDrop (mCall 3 (m__check_all n) (aCons (mVar 0) (aCons (mTup (aCons (mVar 1) aNil)) (aCons (mTup (aCons (mVar 2) aNil)) aNil)))))
    (sRet (mCall 3 (m_fits_in n) (aCons (mVar 0) (aCons (mVar 1) (aCons (mVar 2) aNil)))))))
noncomputable def m_led : Nat → FM
  | 0 => fun _ _ => none
  | n + 1 => mFun 3 3 ((sSeq (sDrop (mCall 3 (m__check_all n) (aCons (mVar 0) (aCons (mTup (aCons (mVar 1) aNil)) (aCons (mTup (aCons (mVar 2) aNil)) aNil)))))
    (sRet (mCall 3 (m_led_in n) (aCons (mVar 0) (aCons (mVar 1) (aCons (mVar 2) aNil)))))))
noncomputable def m_nothing : Nat → FM
  | 0 => fun _ _ => none
  | n + 1 => mFun 2 2 ((sSeq (sDrop (mCall 3 (m__check_all n) (aCons (mVar 0) (aCons (mTup (aCons (mVar 1) aNil)) (aCons (mTup aNil) aNil)))))
    (sRet (mCall 3 (m_less_in n) (aCons (mVar 0) (aCons (mVar 1) (aCons (mVar 1) aNil)))))))
noncomputable def m_changes_nothing : Nat → FM
  | 0 => fun _ _ => none
  | n + 1 => mFun 3 3 ((sSeq (sDrop (mCall 3 (m__check_all n) (aCons (mVar 0) (aCons (mTup (aCons (mVar 1) aNil)) (aCons (mTup (aCons (mVar 2) aNil)) aNil)))))
    (sRet (mAndV (mCall 3 (m_fits_in n) (aCons (mVar 0) (aCons (mVar 1) (aCons (mVar 2) aNil)))) (mOp pEq (mCall 3 (m_led_in n) (aCons (mVar 0) (aCons (mVar 1) (aCons (mVar 2) aNil)))) (mVar 1))))))
noncomputable def m__check_fitting : Nat → FM
  | 0 => fun _ _ => none
  | n + 1 => mFun 3 3 ((sIf (mNot (mTest (mCall 3 (m_fits_in n) (aCons (mVar 0) (aCons (mVar 1) (aCons (mVar 2) aNil)))))) sBad sNext))
noncomputable def m_joined : Nat → FM
  | 0 => fun _ _ => none
  | n + 1 => mFun 4 4 ((sSeq (sDrop (mCall 3 (m__check_all n) (aCons (mVar 0) (aCons (mTup (aCons (mVar 1) aNil)) (aCons (mTup (aCons (mVar 2) (aCons (mVar 3) aNil))) aNil)))))
    (sSeq (sDrop (mCall 3 (m__check_fitting n) (aCons (mVar 0) (aCons (mVar 1) (aCons (mVar 2) aNil)))))
    (sSeq (sDrop (mCall 3 (m__check_fitting n) (aCons (mVar 0) (aCons (mCall 3 (m_led_in n) (aCons (mVar 0) (aCons (mVar 1) (aCons (mVar 2) aNil)))) (aCons (mVar 3) aNil)))))
    (sRet (mCall 4 (m_joined_in n) (aCons (mVar 0) (aCons (mVar 1) (aCons (mVar 2) (aCons (mVar 3) aNil))))))))))
noncomputable def m_back : Nat → FM
  | 0 => fun _ _ => none
  | n + 1 => mFun 3 3 ((sSeq (sDrop (mCall 3 (m__check_all n) (aCons (mVar 0) (aCons (mTup (aCons (mVar 1) aNil)) (aCons (mTup (aCons (mVar 2) aNil)) aNil)))))
    (sSeq (sDrop (mCall 3 (m__check_fitting n) (aCons (mVar 0) (aCons (mVar 1) (aCons (mVar 2) aNil)))))
    (sRet (mCall 3 (m_back_in n) (aCons (mVar 0) (aCons (mVar 1) (aCons (mVar 2) aNil))))))))
noncomputable def m__law_urn : Nat → FM
  | 0 => fun _ _ => none
  | n + 1 => mFun 2 5 ((sSeq (sAsg (mIf (mTest (mOp pLt (mVar 1) (mCB pLen (aCons (mVar 0) aNil)))) (mCB pInt (aCons (mOp pIx (mVar 0) (mVar 1)) aNil)) (mC (.int 0))) (gmName 2))
    (sSeq (sAsg (mOp pAdd (mC (.int 700001)) (mOp pMul (mC (.int 409)) (mVar 1))) (gmName 3))
    (sSeq (sFor (iA (mSl pSl (mVar 0) oNone (oSome (mC (.int 11))))) (gmName 4) (sAsg (mOp pMod (mCB pInt (aCons (mOp pAdd (mOp pAdd (mOp pMul (mVar 3) (mC (.int 50021))) (mOp pMod (mCB pInt (aCons (mVar 4) aNil)) (mC (.int 2147483417)))) (mC (.int 19))) aNil)) (mC (.int 2147483563))) (gmName 3)))
    (sSeq (sAsg (mOp pMod (mCB pInt (aCons (mOp pAdd (mOp pAdd (mOp pMul (mVar 3) (mC (.int 59))) (mOp pMul (mOp pMod (mCB pInt (aCons (mVar 2) aNil)) (mC (.int 2147483417))) (mC (.int 30011)))) (mC (.int 3))) aNil)) (mC (.int 2147483563))) (gmName 3))
    (sRet (mLstC (aCons (mIf (mOr (mTest (mOp pLt (mVar 2) (mC (.int 0)))) (mTest (mOp pGe (mVar 2) (mOp pPow (mC (.int 10)) (mC (.int 16)))))) (mCB pAbs (aCons (mVar 2) aNil)) (mC (.int 0))) (aCons (mVar 3) (aCons (mC (.int 0)) aNil))))))))))
noncomputable def m__law_pull : Nat → FM
  | 0 => fun _ _ => none
  | n + 1 => mFun 2 4 ((sSeq (sIf (mTest (mOp pGt (mOp pIx (mVar 0) (mC (.int 0))) (mC (.int 0)))) (sSeq (sAsg (mCB pDivmodW (aCons (mOp pIx (mVar 0) (mC (.int 0))) (aCons (mVar 1) aNil))) (gmTup 2 (gmCons (gmSub (mVar 0) (mC (.int 0))) (gmCons (gmName 2) gmNil))))
    (sRet (mVar 2))) sNext)
    (sSeq (sAsg (mOp pAdd (mOp pIx (mVar 0) (mC (.int 2))) (mC (.int 1))) (gmSub (mVar 0) (mC (.int 2))))
    (sSeq (sAsg (mOp pMod (mCB pInt (aCons (mOp pAdd (mOp pAdd (mOp pMul (mOp pIx (mVar 0) (mC (.int 1))) (mC (.int 39373))) (mOp pMul (mOp pIx (mVar 0) (mC (.int 2))) (mC (.int 50021)))) (mC (.int 11))) aNil)) (mC (.int 2147483563))) (gmName 3))
    (sSeq (sAsg (mVar 3) (gmSub (mVar 0) (mC (.int 1))))
    (sRet (mOp pMod (mCB pInt (aCons (mOp pFdiv (mOp pMod (mCB pInt (aCons (mOp pMul (mVar 3) (mOp pAdd (mOp pMod (mCB pInt (aCons (mVar 3) aNil)) (mC (.int 6007))) (mC (.int 30011)))) aNil)) (mC (.int 21474835870))) (mC (.int 127))) aNil)) (mVar 1))))))))
noncomputable def m__law_one : Nat → FM
  | 0 => fun _ _ => none
  | n + 1 => mFun 2 2 ((sRet (mOp pIx (mVar 1) (mCall 2 (m__law_pull n) (aCons (mVar 0) (aCons (mCB pLen (aCons (mVar 1) aNil)) aNil))))))
noncomputable def m__law_is : Nat → FM
  | 0 => fun _ _ => none
  | n + 1 => mFun 2 2 ((sRet (mOp pEq (mCB pRepr (aCons (mVar 0) aNil)) (mCB pRepr (aCons (mVar 1) aNil)))))
noncomputable def m__law_truth : Nat → FM
  | 0 => fun _ _ => none
  | n + 1 => mFun 0 0 ((sRet (mTup (aCons (mC (.str "either")) (aCons (mTup (aCons (mC (.str "unit")) aNil)) (aCons (mTup (aCons (mC (.str "unit")) aNil)) aNil))))))
noncomputable def m__law_plain_kind : Nat → FM
  | 0 => fun _ _ => none
  | n + 1 => mFun 2 4 ((sSeq (sAsg (mCall 2 (m__law_pull n) (aCons (mVar 0) (aCons (mC (.int 8)) aNil))) (gmName 2))
    (sSeq (sIf (mOr (mTest (mOp pLt (mVar 1) (mC (.int 1)))) (mTest (mOp pLt (mVar 2) (mC (.int 4))))) (sRet (mIf (mTest (mOp pEq (mVar 2) (mC (.int 0)))) (mTup (aCons (mC (.str "unit")) aNil)) (mTup (aCons (mC (.str "num")) aNil)))) sNext)
    (sSeq (sIf (mTest (mOp pEq (mVar 2) (mC (.int 4)))) (sRet (mCall 0 (m__law_truth n) aNil)) sNext)
    (sSeq (sAsg (mCall 2 (m__law_plain_kind n) (aCons (mVar 0) (aCons (mOp pSub (mVar 1) (mC (.int 1))) aNil))) (gmName 3))
    (sRet (mTup (aCons (mIf (mTest (mOp pLt (mVar 2) (mC (.int 7)))) (mC (.str "pair")) (mC (.str "either"))) (aCons (mVar 3) (aCons (mCall 2 (m__law_plain_kind n) (aCons (mVar 0) (aCons (mOp pSub (mVar 1) (mC (.int 1))) aNil))) aNil))))))))))
noncomputable def m__law_data_kind : Nat → FM
  | 0 => fun _ _ => none
  | n + 1 => mFun 2 4 ((sSeq (sAsg (mCall 2 (m__law_pull n) (aCons (mVar 0) (aCons (mC (.int 9)) aNil))) (gmName 2))
    (sSeq (sIf (mOr (mTest (mOp pLt (mVar 1) (mC (.int 1)))) (mTest (mOp pLt (mVar 2) (mC (.int 3))))) (sRet (mCall 2 (m__law_plain_kind n) (aCons (mVar 0) (aCons (mVar 1) aNil)))) sNext)
    (sSeq (sIf (mTest (mOp pLt (mVar 2) (mC (.int 6)))) (sRet (mTup (aCons (mC (.str "bag")) (aCons (mCall 2 (m__law_plain_kind n) (aCons (mVar 0) (aCons (mOp pSub (mVar 1) (mC (.int 1))) aNil))) aNil)))) sNext)
    (sSeq (sAsg (mCall 2 (m__law_data_kind n) (aCons (mVar 0) (aCons (mOp pSub (mVar 1) (mC (.int 1))) aNil))) (gmName 3))
    (sRet (mTup (aCons (mIf (mTest (mOp pEq (mVar 2) (mC (.int 6)))) (mC (.str "pair")) (mC (.str "either"))) (aCons (mVar 3) (aCons (mCall 2 (m__law_data_kind n) (aCons (mVar 0) (aCons (mOp pSub (mVar 1) (mC (.int 1))) aNil))) aNil))))))))))
noncomputable def m__law_bag : Nat → FM
  | 0 => fun _ _ => none
  | n + 1 => bagF
noncomputable def m__law_whole : Nat → FM
  | 0 => fun _ _ => none
  | n + 1 => mFun 1 1 ((sRet (mCall 2 (m__law_one n) (aCons (mVar 0) (aCons (mTup (aCons (mC (.int 0)) (aCons (mC (.int 1)) (aCons (mC (.int 2)) (aCons (mC (.int 3)) (aCons (mUn pNeg (mC (.int 1))) (aCons (mUn pNeg (mC (.int 2))) (aCons (mC (.int 5)) (aCons (mOp pSub (mCall 2 (m__law_pull n) (aCons (mVar 0) (aCons (mC (.int 9)) aNil))) (mC (.int 4))) (aCons (mOp pSub (mCall 2 (m__law_pull n) (aCons (mVar 0) (aCons (mOp pPow (mC (.int 10)) (mC (.int 12))) aNil))) (mOp pMul (mC (.int 5)) (mOp pPow (mC (.int 10)) (mC (.int 11))))) aNil)))))))))) aNil)))))
noncomputable def m__law_value : Nat → FM
  | 0 => fun _ _ => none
  | n + 1 => mFun 2 6 ((sSeq (sIf (mTest (mOp pEq (mOp pIx (mVar 1) (mC (.int 0))) (mC (.str "unit")))) (sRet (mTup aNil)) sNext)
    (sSeq (sIf (mTest (mOp pEq (mOp pIx (mVar 1) (mC (.int 0))) (mC (.str "num")))) (sRet (mCall 1 (m__law_whole n) (aCons (mVar 0) aNil))) sNext)
    (sSeq (sIf (mTest (mOp pEq (mOp pIx (mVar 1) (mC (.int 0))) (mC (.str "pair")))) (sSeq (sAsg (mCall 2 (m__law_value n) (aCons (mVar 0) (aCons (mOp pIx (mVar 1) (mC (.int 1))) aNil))) (gmName 2))
    (sRet (mTup (aCons (mC (.str "pair")) (aCons (mVar 2) (aCons (mCall 2 (m__law_value n) (aCons (mVar 0) (aCons (mOp pIx (mVar 1) (mC (.int 2))) aNil))) aNil)))))) sNext)
    (sSeq (sIf (mTest (mOp pEq (mOp pIx (mVar 1) (mC (.int 0))) (mC (.str "either")))) (sSeq (sAsg (mCall 2 (m__law_pull n) (aCons (mVar 0) (aCons (mC (.int 2)) aNil))) (gmName 3))
    (sRet (mTup (aCons (mOp pIx (mTup (aCons (mC (.str "left")) (aCons (mC (.str "right")) aNil))) (mVar 3)) (aCons (mCall 2 (m__law_value n) (aCons (mVar 0) (aCons (mOp pIx (mVar 1) (mOp pAdd (mC (.int 1)) (mVar 3))) aNil))) aNil))))) sNext)
    (sSeq (sAsg (mLstC aNil) (gmName 4))
    (sSeq (sFor (iR1 (aCons (mCall 2 (m__law_pull n) (aCons (mVar 0) (aCons (mC (.int 4)) aNil))) aNil)) (gmName 5) (sDrop (mApp (mVar 4) (aCons (mTup (aCons (mCall 2 (m__law_value n) (aCons (mVar 0) (aCons (mOp pIx (mVar 1) (mC (.int 1))) aNil))) (aCons (mCall 2 (m__law_one n) (aCons (mVar 0) (aCons (mTup (aCons (mC (.int 1)) (aCons (mC (.int 2)) (aCons (mUn pNeg (mC (.int 1))) (aCons (mC (.int 1)) (aCons (mC (.int 4)) (aCons (mUn pNeg (mC (.int 3))) aNil))))))) aNil))) aNil))) aNil))))
    (sRet (mCall 1 (m__law_bag n) (aCons (mFrz (mVar 4)) aNil))))))))))
noncomputable def m__law_plus : Nat → FM
  | 0 => fun _ _ => none
  | n + 1 => mFun 2 2 ((sSeq (sIf (mNot (mTest (mCB pIsi (aCons (mVar 0) (aCons (mTy "tuple") aNil))))) (sRet (mOp pAdd (mVar 0) (mVar 1))) sNext)
    (sSeq (sIf (mAnd (mTest (mOp pNe (mVar 0) (mTup aNil))) (mTest (mOp pEq (mOp pIx (mVar 0) (mC (.int 0))) (mC (.str "pair"))))) (sRet (mTup (aCons (mC (.str "pair")) (aCons (mCall 2 (m__law_plus n) (aCons (mOp pIx (mVar 0) (mC (.int 1))) (aCons (mOp pIx (mVar 1) (mC (.int 1))) aNil))) (aCons (mCall 2 (m__law_plus n) (aCons (mOp pIx (mVar 0) (mC (.int 2))) (aCons (mOp pIx (mVar 1) (mC (.int 2))) aNil))) aNil))))) sNext)
    (sRet (mCall 1 (m__law_bag n) (aCons (mOp pAdd (mCB pList (aCons (mVar 0) aNil)) (mCB pList (aCons (mVar 1) aNil))) aNil))))))
noncomputable def m__law_many : Nat → FM
  | 0 => fun _ _ => none
  | n + 1 => mFun 2 4 ((sSeq (sIf (mNot (mTest (mCB pIsi (aCons (mVar 1) (aCons (mTy "tuple") aNil))))) (sRet (mOp pMul (mVar 0) (mVar 1))) sNext)
    (sSeq (sIf (mAnd (mTest (mOp pNe (mVar 1) (mTup aNil))) (mTest (mOp pEq (mOp pIx (mVar 1) (mC (.int 0))) (mC (.str "pair"))))) (sRet (mTup (aCons (mC (.str "pair")) (aCons (mCall 2 (m__law_many n) (aCons (mVar 0) (aCons (mOp pIx (mVar 1) (mC (.int 1))) aNil))) (aCons (mCall 2 (m__law_many n) (aCons (mVar 0) (aCons (mOp pIx (mVar 1) (mC (.int 2))) aNil))) aNil))))) sNext)
    (sRet (mCall 1 (m__law_bag n) (aCons (mLc (iA (mVar 1)) (gmTup 2 (gmCons (gmName 2) (gmCons (gmName 3) gmNil))) mYes (mTup (aCons (mVar 2) (aCons (mOp pMul (mVar 0) (mVar 3)) aNil))) [2, 3]) aNil))))))
noncomputable def m__law_led : Nat → FM
  | 0 => fun _ _ => none
  | n + 1 => mFun 3 3 ((sSeq (sIf (mTest (mOp pEq (mOp pIx (mVar 0) (mC (.int 0))) (mC (.str "unit")))) (sRet (mTup aNil)) sNext)
    (sSeq (sIf (mTest (mOp (pIn false) (mOp pIx (mVar 0) (mC (.int 0))) (mTup (aCons (mC (.str "num")) (aCons (mC (.str "bag")) aNil))))) (sRet (mCall 2 (m__law_plus n) (aCons (mVar 1) (aCons (mVar 2) aNil)))) sNext)
    (sSeq (sIf (mTest (mOp pEq (mOp pIx (mVar 0) (mC (.int 0))) (mC (.str "pair")))) (sRet (mTup (aCons (mC (.str "pair")) (aCons (mCall 3 (m__law_led n) (aCons (mOp pIx (mVar 0) (mC (.int 1))) (aCons (mOp pIx (mVar 1) (mC (.int 1))) (aCons (mOp pIx (mVar 2) (mC (.int 1))) aNil)))) (aCons (mCall 3 (m__law_led n) (aCons (mOp pIx (mVar 0) (mC (.int 2))) (aCons (mOp pIx (mVar 1) (mC (.int 2))) (aCons (mOp pIx (mVar 2) (mC (.int 2))) aNil)))) aNil))))) sNext)
    (sSeq (sIf (mTest (mOp pEq (mOp pIx (mVar 2) (mC (.int 0))) (mC (.str "right")))) (sRet (mOp pIx (mVar 2) (mC (.int 1)))) sNext)
    (sSeq (sIf (mTest (mOp pNe (mOp pIx (mOp pIx (mVar 2) (mC (.int 1))) (mC (.int 0))) (mOp pIx (mVar 1) (mC (.int 0))))) (sRet (mVar 1)) sNext)
    (sRet (mTup (aCons (mOp pIx (mVar 1) (mC (.int 0))) (aCons (mCall 3 (m__law_led n) (aCons (mOp pIx (mVar 0) (mIf (mTest (mOp pEq (mOp pIx (mVar 1) (mC (.int 0))) (mC (.str "left")))) (mC (.int 1)) (mC (.int 2)))) (aCons (mOp pIx (mVar 1) (mC (.int 1))) (aCons (mOp pIx (mOp pIx (mVar 2) (mC (.int 1))) (mC (.int 1))) aNil)))) aNil))))))))))
noncomputable def m__law_less : Nat → FM
  | 0 => fun _ _ => none
  | n + 1 => mFun 3 3 ((sSeq (sIf (mTest (mOp pEq (mOp pIx (mVar 0) (mC (.int 0))) (mC (.str "unit")))) (sRet (mTup aNil)) sNext)
    (sSeq (sIf (mTest (mOp (pIn false) (mOp pIx (mVar 0) (mC (.int 0))) (mTup (aCons (mC (.str "num")) (aCons (mC (.str "bag")) aNil))))) (sRet (mCall 2 (m__law_plus n) (aCons (mVar 1) (aCons (mCall 2 (m__law_many n) (aCons (mUn pNeg (mC (.int 1))) (aCons (mVar 2) aNil))) aNil)))) sNext)
    (sSeq (sIf (mTest (mOp pEq (mOp pIx (mVar 0) (mC (.int 0))) (mC (.str "pair")))) (sRet (mTup (aCons (mC (.str "pair")) (aCons (mCall 3 (m__law_less n) (aCons (mOp pIx (mVar 0) (mC (.int 1))) (aCons (mOp pIx (mVar 1) (mC (.int 1))) (aCons (mOp pIx (mVar 2) (mC (.int 1))) aNil)))) (aCons (mCall 3 (m__law_less n) (aCons (mOp pIx (mVar 0) (mC (.int 2))) (aCons (mOp pIx (mVar 1) (mC (.int 2))) (aCons (mOp pIx (mVar 2) (mC (.int 2))) aNil)))) aNil))))) sNext)
    (sSeq (sIf (mTest (mOp pNe (mOp pIx (mVar 1) (mC (.int 0))) (mOp pIx (mVar 2) (mC (.int 0))))) (sRet (mTup (aCons (mC (.str "right")) (aCons (mVar 1) aNil)))) sNext)
    (sRet (mTup (aCons (mC (.str "left")) (aCons (mTup (aCons (mOp pIx (mVar 1) (mC (.int 0))) (aCons (mCall 3 (m__law_less n) (aCons (mOp pIx (mVar 0) (mIf (mTest (mOp pEq (mOp pIx (mVar 1) (mC (.int 0))) (mC (.str "left")))) (mC (.int 1)) (mC (.int 2)))) (aCons (mOp pIx (mVar 1) (mC (.int 1))) (aCons (mOp pIx (mVar 2) (mC (.int 1))) aNil)))) aNil))) aNil)))))))))
noncomputable def m__law_joined : Nat → FM
  | 0 => fun _ _ => none
  | n + 1 => mFun 3 4 ((sSeq (sIf (mTest (mOp pEq (mOp pIx (mVar 0) (mC (.int 0))) (mC (.str "unit")))) (sRet (mTup aNil)) sNext)
    (sSeq (sIf (mTest (mOp (pIn false) (mOp pIx (mVar 0) (mC (.int 0))) (mTup (aCons (mC (.str "num")) (aCons (mC (.str "bag")) aNil))))) (sRet (mCall 2 (m__law_plus n) (aCons (mVar 1) (aCons (mVar 2) aNil)))) sNext)
    (sSeq (sIf (mTest (mOp pEq (mOp pIx (mVar 0) (mC (.int 0))) (mC (.str "pair")))) (sRet (mTup (aCons (mC (.str "pair")) (aCons (mCall 3 (m__law_joined n) (aCons (mOp pIx (mVar 0) (mC (.int 1))) (aCons (mOp pIx (mVar 1) (mC (.int 1))) (aCons (mOp pIx (mVar 2) (mC (.int 1))) aNil)))) (aCons (mCall 3 (m__law_joined n) (aCons (mOp pIx (mVar 0) (mC (.int 2))) (aCons (mOp pIx (mVar 1) (mC (.int 2))) (aCons (mOp pIx (mVar 2) (mC (.int 2))) aNil)))) aNil))))) sNext)
    (sSeq (sIf (mTest (mOp pEq (mOp pIx (mVar 2) (mC (.int 0))) (mC (.str "right")))) (sRet (mVar 2)) sNext)
    (sSeq (sIf (mTest (mOp pEq (mOp pIx (mVar 1) (mC (.int 0))) (mC (.str "right")))) (sRet (mTup (aCons (mC (.str "right")) (aCons (mCall 3 (m__law_led n) (aCons (mVar 0) (aCons (mOp pIx (mVar 1) (mC (.int 1))) (aCons (mVar 2) aNil)))) aNil)))) sNext)
    (sSeq (sAsg (mOp pIx (mOp pIx (mVar 1) (mC (.int 1))) (mC (.int 0))) (gmName 3))
    (sRet (mTup (aCons (mC (.str "left")) (aCons (mTup (aCons (mVar 3) (aCons (mCall 3 (m__law_joined n) (aCons (mOp pIx (mVar 0) (mIf (mTest (mOp pEq (mVar 3) (mC (.str "left")))) (mC (.int 1)) (mC (.int 2)))) (aCons (mOp pIx (mOp pIx (mVar 1) (mC (.int 1))) (mC (.int 1))) (aCons (mOp pIx (mOp pIx (mVar 2) (mC (.int 1))) (mC (.int 1))) aNil)))) aNil))) aNil)))))))))))
noncomputable def m__law_change : Nat → FM
  | 0 => fun _ _ => none
  | n + 1 => mFun 3 5 ((sSeq (sIf (mTest (mOp pEq (mOp pIx (mVar 1) (mC (.int 0))) (mC (.str "pair")))) (sSeq (sAsg (mCall 3 (m__law_change n) (aCons (mVar 0) (aCons (mOp pIx (mVar 1) (mC (.int 1))) (aCons (mOp pIx (mVar 2) (mC (.int 1))) aNil)))) (gmName 3))
    (sRet (mTup (aCons (mC (.str "pair")) (aCons (mVar 3) (aCons (mCall 3 (m__law_change n) (aCons (mVar 0) (aCons (mOp pIx (mVar 1) (mC (.int 2))) (aCons (mOp pIx (mVar 2) (mC (.int 2))) aNil)))) aNil)))))) sNext)
    (sSeq (sIf (mTest (mOp pNe (mOp pIx (mVar 1) (mC (.int 0))) (mC (.str "either")))) (sRet (mCall 2 (m__law_value n) (aCons (mVar 0) (aCons (mVar 1) aNil)))) sNext)
    (sSeq (sIf (mTest (mOp pEq (mCall 2 (m__law_pull n) (aCons (mVar 0) (aCons (mC (.int 3)) aNil))) (mC (.int 0)))) (sSeq (sAsg (mTup (aCons (mOp pIx (mVar 2) (mC (.int 0))) (aCons (mCall 2 (m__law_value n) (aCons (mVar 0) (aCons (mOp pIx (mVar 1) (mIf (mTest (mOp pEq (mOp pIx (mVar 2) (mC (.int 0))) (mC (.str "left")))) (mC (.int 1)) (mC (.int 2)))) aNil))) aNil))) (gmName 4))
    (sRet (mTup (aCons (mC (.str "right")) (aCons (mCall 2 (m__law_one n) (aCons (mVar 0) (aCons (mTup (aCons (mCall 2 (m__law_value n) (aCons (mVar 0) (aCons (mVar 1) aNil))) (aCons (mVar 4) (aCons (mVar 2) aNil)))) aNil))) aNil))))) sNext)
    (sRet (mTup (aCons (mC (.str "left")) (aCons (mTup (aCons (mOp pIx (mVar 2) (mC (.int 0))) (aCons (mCall 3 (m__law_change n) (aCons (mVar 0) (aCons (mOp pIx (mVar 1) (mIf (mTest (mOp pEq (mOp pIx (mVar 2) (mC (.int 0))) (mC (.str "left")))) (mC (.int 1)) (mC (.int 2)))) (aCons (mOp pIx (mVar 2) (mC (.int 1))) aNil)))) aNil))) aNil))))))))
noncomputable def m__law_right : Nat → FM
  | 0 => fun _ _ => none
  | n + 1 => mFun 1 14 ((sSeq (sFor (iR1 (aCons (mC (.int 4)) aNil)) (gmName 1) (sSeq (sAsg (mIf (mTest (mOp pGt (mVar 1) (mC (.int 1)))) (mCall 2 (m__law_data_kind n) (aCons (mVar 0) (aCons (mC (.int 3)) aNil))) (mTup (aCons (mC (.str "either")) (aCons (mCall 2 (m__law_data_kind n) (aCons (mVar 0) (aCons (mC (.int 2)) aNil))) (aCons (mCall 2 (m__law_data_kind n) (aCons (mVar 0) (aCons (mC (.int 2)) aNil))) aNil))))) (gmName 2))
    (sSeq (sAsg (mCall 2 (m__law_value n) (aCons (mVar 0) (aCons (mVar 2) aNil))) (gmName 3))
    (sSeq (sAsg (mCall 3 (m__law_change n) (aCons (mVar 0) (aCons (mVar 2) (aCons (mVar 3) aNil)))) (gmName 4))
    (sSeq (sAsg (mCall 3 (m__law_led n) (aCons (mVar 2) (aCons (mVar 3) (aCons (mVar 4) aNil)))) (gmName 5))
    (sSeq (sAsg (mCall 3 (m__law_change n) (aCons (mVar 0) (aCons (mVar 2) (aCons (mVar 5) aNil)))) (gmName 6))
    (sSeq (sAsg (mCall 3 (m__law_led n) (aCons (mVar 2) (aCons (mVar 5) (aCons (mVar 6) aNil)))) (gmName 7))
    (sSeq (sAsg (mCall 3 (m__law_change n) (aCons (mVar 0) (aCons (mVar 2) (aCons (mVar 7) aNil)))) (gmName 8))
    (sSeq (sPar 9 10 (aCons (mCall 3 (m__law_joined n) (aCons (mVar 2) (aCons (mVar 4) (aCons (mVar 6) aNil)))) (aCons (mCall 3 (m__law_joined n) (aCons (mVar 2) (aCons (mVar 6) (aCons (mVar 8) aNil)))) aNil)))
    (sSeq (sAsg (mLst (aCons (mCall 4 (m_joined n) (aCons (mVar 2) (aCons (mVar 3) (aCons (mVar 4) (aCons (mVar 6) aNil))))) (aCons (mCallN 4 (m_joined n) (pickA [3, 2, 1, 0] 4) (aCons (mVar 6) (aCons (mVar 4) (aCons (mVar 3) (aCons (mVar 2) aNil))))) aNil))) (gmName 11))
    (sSeq (sIf (mNot (mTest (mCall 2 (m__law_is n) (aCons (mOp pAdd (mVar 11) (mLst (aCons (mCall 3 (m_led n) (aCons (mVar 2) (aCons (mVar 3) (aCons (mVar 9) aNil)))) (aCons (mCall 3 (m_fits n) (aCons (mVar 2) (aCons (mVar 3) (aCons (mVar 9) aNil)))) aNil)))) (aCons (mLst (aCons (mVar 9) (aCons (mVar 9) (aCons (mVar 7) (aCons (mC (.bool true)) aNil))))) aNil))))) (sRet (mC (.bool false))) sNext)
    (sSeq (sAsg (mCall 3 (m__law_joined n) (aCons (mVar 2) (aCons (mVar 9) (aCons (mVar 8) aNil)))) (gmName 12))
    (sSeq (sAsg (mLst (aCons (mCall 4 (m_joined n) (aCons (mVar 2) (aCons (mVar 3) (aCons (mVar 9) (aCons (mVar 8) aNil))))) (aCons (mCall 4 (m_joined n) (aCons (mVar 2) (aCons (mVar 3) (aCons (mVar 4) (aCons (mCall 4 (m_joined n) (aCons (mVar 2) (aCons (mVar 5) (aCons (mVar 6) (aCons (mVar 8) aNil))))) aNil))))) aNil))) (gmName 11))
    (sSeq (sIf (mOr (mNot (mTest (mCall 2 (m__law_is n) (aCons (mVar 11) (aCons (mLst (aCons (mVar 12) (aCons (mVar 12) aNil))) aNil))))) (mNot (mTest (mCall 2 (m__law_is n) (aCons (mVar 10) (aCons (mCall 4 (m_joined n) (aCons (mVar 2) (aCons (mVar 5) (aCons (mVar 6) (aCons (mVar 8) aNil))))) aNil)))))) (sRet (mC (.bool false))) sNext)
    (sSeq (sAsg (mLst (aCons (mCall 4 (m_joined n) (aCons (mVar 2) (aCons (mVar 3) (aCons (mCall 2 (m_nothing n) (aCons (mVar 2) (aCons (mVar 3) aNil))) (aCons (mVar 4) aNil))))) (aCons (mCall 4 (m_joined n) (aCons (mVar 2) (aCons (mVar 3) (aCons (mVar 4) (aCons (mCall 2 (m_nothing n) (aCons (mVar 2) (aCons (mVar 5) aNil))) aNil))))) aNil))) (gmName 11))
    (sSeq (sAsg (mCall 3 (m__law_less n) (aCons (mVar 2) (aCons (mVar 3) (aCons (mVar 5) aNil)))) (gmName 13))
    (sSeq (sAsg (mOp pAdd (mVar 11) (mLst (aCons (mCall 3 (m_back n) (aCons (mVar 2) (aCons (mVar 3) (aCons (mVar 4) aNil)))) (aCons (mCallN 3 (m_back n) (pickA [2, 1, 0] 3) (aCons (mVar 4) (aCons (mVar 3) (aCons (mVar 2) aNil)))) (aCons (mCall 3 (m_led n) (aCons (mVar 2) (aCons (mVar 5) (aCons (mVar 13) aNil)))) aNil))))) (gmName 11))
    (sSeq (sIf (mOr (mNot (mTest (mCall 2 (m__law_is n) (aCons (mVar 11) (aCons (mLst (aCons (mVar 4) (aCons (mVar 4) (aCons (mVar 13) (aCons (mVar 13) (aCons (mVar 3) aNil)))))) aNil))))) (mTest (mOp pNoB (mCall 3 (m_fits n) (aCons (mVar 2) (aCons (mVar 5) (aCons (mVar 13) aNil)))) (mC (.bool true))))) (sRet (mC (.bool false))) sNext)
    (sIf (mTest (mOp pNoB (mCall 3 (m_changes_nothing n) (aCons (mVar 2) (aCons (mVar 3) (aCons (mCall 4 (m_joined n) (aCons (mVar 2) (aCons (mVar 3) (aCons (mVar 4) (aCons (mCall 3 (m_back n) (aCons (mVar 2) (aCons (mVar 3) (aCons (mVar 4) aNil)))) aNil))))) aNil)))) (mC (.bool true)))) (sRet (mC (.bool false))) sNext)))))))))))))))))))
    (sRet (mC (.bool true)))))
noncomputable def m_law : Nat → FM
  | 0 => fun _ _ => none
  | n + 1 => mFun 1 2 ((sSeq (sFor (iR1 (aCons (mCB pMax (aCons (mC (.int 1)) (aCons (mCB pMin (aCons (mCB pLen (aCons (mVar 0) aNil)) (aCons (mC (.int 3)) aNil))) aNil))) aNil)) (gmName 1) (sIf (mNot (mTest (mCall 1 (m__law_right n) (aCons (mCall 2 (m__law_urn n) (aCons (mVar 0) (aCons (mVar 1) aNil))) aNil)))) (sRet (mC (.bool false))) sNext))
    (sRet (mC (.bool true)))))
end N25
namespace N25
open PySem PySem.Spec PyProof.Rows L2 Z M
abbrev s__has_form : Stmt := top 14
abbrev n__has_form : List Str := ["value"]
abbrev p__has_form : List Str := ["value"]
theorem sc__has_form : FnScope n__has_form p__has_form (defScope s__has_form) := ⟨rfl, rfl, rfl, by decide +kernel, rfl, by decide +kernel, by decide +kernel⟩
abbrev s__is_made_of : Stmt := top 15
abbrev n__is_made_of : List Str := ["kind", "words", "part"]
abbrev p__is_made_of : List Str := ["kind", "words"]
theorem sc__is_made_of : FnScope n__is_made_of p__is_made_of (defScope s__is_made_of) := ⟨rfl, rfl, rfl, by decide +kernel, rfl, by decide +kernel, by decide +kernel⟩
abbrev s__is_kind_within : Stmt := top 13
abbrev n__is_kind_within : List Str := ["value", "room", "part"]
abbrev p__is_kind_within : List Str := ["value", "room"]
theorem sc__is_kind_within : FnScope n__is_kind_within p__is_kind_within (defScope s__is_kind_within) := ⟨rfl, rfl, rfl, by decide +kernel, rfl, by decide +kernel, by decide +kernel⟩
abbrev s_is_kind : Stmt := top 11
abbrev n_is_kind : List Str := ["value"]
abbrev p_is_kind : List Str := ["value"]
theorem sc_is_kind : FnScope n_is_kind p_is_kind (defScope s_is_kind) := ⟨rfl, rfl, rfl, by decide +kernel, rfl, by decide +kernel, by decide +kernel⟩
abbrev s_is_known_data : Stmt := top 16
abbrev n_is_known_data : List Str := ["kind"]
abbrev p_is_known_data : List Str := ["kind"]
theorem sc_is_known_data : FnScope n_is_known_data p_is_known_data (defScope s_is_known_data) := ⟨rfl, rfl, rfl, by decide +kernel, rfl, by decide +kernel, by decide +kernel⟩
abbrev s_is_data_kind : Stmt := top 12
abbrev n_is_data_kind : List Str := ["value"]
abbrev p_is_data_kind : List Str := ["value"]
theorem sc_is_data_kind : FnScope n_is_data_kind p_is_data_kind (defScope s_is_data_kind) := ⟨rfl, rfl, rfl, by decide +kernel, rfl, by decide +kernel, by decide +kernel⟩
abbrev s_gathered : Stmt := top 20
abbrev n_gathered : List Str := ["pairs", "rows", "value", "many", "row"]
abbrev p_gathered : List Str := ["pairs"]
theorem sc_gathered : FnScope n_gathered p_gathered (defScope s_gathered) := ⟨rfl, rfl, rfl, by decide +kernel, rfl, by decide +kernel, by decide +kernel⟩
abbrev s_plus_in : Stmt := top 18
abbrev n_plus_in : List Str := ["kind", "one", "two"]
abbrev p_plus_in : List Str := ["kind", "one", "two"]
theorem sc_plus_in : FnScope n_plus_in p_plus_in (defScope s_plus_in) := ⟨rfl, rfl, rfl, by decide +kernel, rfl, by decide +kernel, by decide +kernel⟩
abbrev s__bag_times : Stmt := top 21
abbrev n__bag_times : List Str := ["number", "bag", "held", "many"]
abbrev p__bag_times : List Str := ["number", "bag"]
theorem sc__bag_times : FnScope n__bag_times p__bag_times (defScope s__bag_times) := ⟨rfl, rfl, rfl, by decide +kernel, rfl, by decide +kernel, by decide +kernel⟩
abbrev s_times_in : Stmt := top 19
abbrev n_times_in : List Str := ["kind", "number", "one"]
abbrev p_times_in : List Str := ["kind", "number", "one"]
theorem sc_times_in : FnScope n_times_in p_times_in (defScope s_times_in) := ⟨rfl, rfl, rfl, by decide +kernel, rfl, by decide +kernel, by decide +kernel⟩
abbrev s_kind_of_changes : Stmt := top 23
abbrev n_kind_of_changes : List Str := ["kind"]
abbrev p_kind_of_changes : List Str := ["kind"]
theorem sc_kind_of_changes : FnScope n_kind_of_changes p_kind_of_changes (defScope s_kind_of_changes) := ⟨rfl, rfl, rfl, by decide +kernel, rfl, by decide +kernel, by decide +kernel⟩
abbrev s__side_kind : Stmt := top 29
abbrev n__side_kind : List Str := ["kind", "value"]
abbrev p__side_kind : List Str := ["kind", "value"]
theorem sc__side_kind : FnScope n__side_kind p__side_kind (defScope s__side_kind) := ⟨rfl, rfl, rfl, by decide +kernel, rfl, by decide +kernel, by decide +kernel⟩
abbrev s_fits_in : Stmt := top 24
abbrev n_fits_in : List Str := ["kind", "value", "change", "side"]
abbrev p_fits_in : List Str := ["kind", "value", "change"]
theorem sc_fits_in : FnScope n_fits_in p_fits_in (defScope s_fits_in) := ⟨rfl, rfl, rfl, by decide +kernel, rfl, by decide +kernel, by decide +kernel⟩
abbrev s_led_in : Stmt := top 25
abbrev n_led_in : List Str := ["kind", "value", "change"]
abbrev p_led_in : List Str := ["kind", "value", "change"]
theorem sc_led_in : FnScope n_led_in p_led_in (defScope s_led_in) := ⟨rfl, rfl, rfl, by decide +kernel, rfl, by decide +kernel, by decide +kernel⟩
abbrev s__led_side : Stmt := top 30
abbrev n__led_side : List Str := ["kind", "value", "change", "side"]
abbrev p__led_side : List Str := ["kind", "value", "change"]
theorem sc__led_side : FnScope n__led_side p__led_side (defScope s__led_side) := ⟨rfl, rfl, rfl, by decide +kernel, rfl, by decide +kernel, by decide +kernel⟩
abbrev s_less_in : Stmt := top 26
abbrev n_less_in : List Str := ["kind", "new", "old"]
abbrev p_less_in : List Str := ["kind", "new", "old"]
theorem sc_less_in : FnScope n_less_in p_less_in (defScope s_less_in) := ⟨rfl, rfl, rfl, by decide +kernel, rfl, by decide +kernel, by decide +kernel⟩
abbrev s_joined_in : Stmt := top 27
abbrev n_joined_in : List Str := ["kind", "value", "one", "two", "firsts"]
abbrev p_joined_in : List Str := ["kind", "value", "one", "two"]
theorem sc_joined_in : FnScope n_joined_in p_joined_in (defScope s_joined_in) := ⟨rfl, rfl, rfl, by decide +kernel, rfl, by decide +kernel, by decide +kernel⟩
abbrev s__joined_sides : Stmt := top 31
abbrev n__joined_sides : List Str := ["kind", "value", "one", "two", "both"]
abbrev p__joined_sides : List Str := ["kind", "value", "one", "two"]
theorem sc__joined_sides : FnScope n__joined_sides p__joined_sides (defScope s__joined_sides) := ⟨rfl, rfl, rfl, by decide +kernel, rfl, by decide +kernel, by decide +kernel⟩
abbrev s_back_in : Stmt := top 28
abbrev n_back_in : List Str := ["kind", "value", "change"]
abbrev p_back_in : List Str := ["kind", "value", "change"]
theorem sc_back_in : FnScope n_back_in p_back_in (defScope s_back_in) := ⟨rfl, rfl, rfl, by decide +kernel, rfl, by decide +kernel, by decide +kernel⟩
abbrev s_is_whole : Stmt := top 33
abbrev n_is_whole : List Str := ["value"]
abbrev p_is_whole : List Str := ["value"]
theorem sc_is_whole : FnScope n_is_whole p_is_whole (defScope s_is_whole) := ⟨rfl, rfl, rfl, by decide +kernel, rfl, by decide +kernel, by decide +kernel⟩
abbrev s__begins : Stmt := top 36
abbrev n__begins : List Str := ["value", "word", "size"]
abbrev p__begins : List Str := ["value", "word", "size"]
theorem sc__begins : FnScope n__begins p__begins (defScope s__begins) := ⟨rfl, rfl, rfl, by decide +kernel, rfl, by decide +kernel, by decide +kernel⟩
abbrev s_is_of : Stmt := top 34
abbrev n_is_of : List Str := ["kind", "value"]
abbrev p_is_of : List Str := ["kind", "value"]
theorem sc_is_of : FnScope n_is_of p_is_of (defScope s_is_of) := ⟨rfl, rfl, rfl, by decide +kernel, rfl, by decide +kernel, by decide +kernel⟩
abbrev s__is_bag : Stmt := top 37
abbrev n__is_bag : List Str := ["plain", "value", "row", "ahead", "behind"]
abbrev p__is_bag : List Str := ["plain", "value"]
theorem sc__is_bag : FnScope n__is_bag p__is_bag (defScope s__is_bag) := ⟨rfl, rfl, rfl, by decide +kernel, rfl, by decide +kernel, by decide +kernel⟩
abbrev s__is_counted : Stmt := top 38
abbrev n__is_counted : List Str := ["plain", "row"]
abbrev p__is_counted : List Str := ["plain", "row"]
theorem sc__is_counted : FnScope n__is_counted p__is_counted (defScope s__is_counted) := ⟨rfl, rfl, rfl, by decide +kernel, rfl, by decide +kernel, by decide +kernel⟩
abbrev s_check_value : Stmt := top 35
abbrev n_check_value : List Str := ["kind", "value"]
abbrev p_check_value : List Str := ["kind", "value"]
theorem sc_check_value : FnScope n_check_value p_check_value (defScope s_check_value) := ⟨rfl, rfl, rfl, by decide +kernel, rfl, by decide +kernel, by decide +kernel⟩
abbrev s__check_data_kind : Stmt := top 46
abbrev n__check_data_kind : List Str := ["kind"]
abbrev p__check_data_kind : List Str := ["kind"]
theorem sc__check_data_kind : FnScope n__check_data_kind p__check_data_kind (defScope s__check_data_kind) := ⟨rfl, rfl, rfl, by decide +kernel, rfl, by decide +kernel, by decide +kernel⟩
abbrev s__check_all : Stmt := top 47
abbrev n__check_all : List Str := ["kind", "things", "changes", "thing", "change"]
abbrev p__check_all : List Str := ["kind", "things", "changes"]
theorem sc__check_all : FnScope n__check_all p__check_all (defScope s__check_all) := ⟨rfl, rfl, rfl, by decide +kernel, rfl, by decide +kernel, by decide +kernel⟩
abbrev s_fits : Stmt := top 40
abbrev n_fits : List Str := ["kind", "value", "change"]
abbrev p_fits : List Str := ["kind", "value", "change"]
theorem sc_fits : FnScope n_fits p_fits (defScope s_fits) := ⟨rfl, rfl, rfl, by decide +kernel, rfl, by decide +kernel, by decide +kernel⟩
abbrev s_led : Stmt := top 41
abbrev n_led : List Str := ["kind", "value", "change"]
abbrev p_led : List Str := ["kind", "value", "change"]
theorem sc_led : FnScope n_led p_led (defScope s_led) := ⟨rfl, rfl, rfl, by decide +kernel, rfl, by decide +kernel, by decide +kernel⟩
abbrev s_nothing : Stmt := top 42
abbrev n_nothing : List Str := ["kind", "value"]
abbrev p_nothing : List Str := ["kind", "value"]
theorem sc_nothing : FnScope n_nothing p_nothing (defScope s_nothing) := ⟨rfl, rfl, rfl, by decide +kernel, rfl, by decide +kernel, by decide +kernel⟩
abbrev s_changes_nothing : Stmt := top 43
abbrev n_changes_nothing : List Str := ["kind", "value", "change"]
abbrev p_changes_nothing : List Str := ["kind", "value", "change"]
theorem sc_changes_nothing : FnScope n_changes_nothing p_changes_nothing (defScope s_changes_nothing) := ⟨rfl, rfl, rfl, by decide +kernel, rfl, by decide +kernel, by decide +kernel⟩
abbrev s__check_fitting : Stmt := top 48
abbrev n__check_fitting : List Str := ["kind", "value", "change"]
abbrev p__check_fitting : List Str := ["kind", "value", "change"]
theorem sc__check_fitting : FnScope n__check_fitting p__check_fitting (defScope s__check_fitting) := ⟨rfl, rfl, rfl, by decide +kernel, rfl, by decide +kernel, by decide +kernel⟩
abbrev s_joined : Stmt := top 44
abbrev n_joined : List Str := ["kind", "value", "one", "two"]
abbrev p_joined : List Str := ["kind", "value", "one", "two"]
theorem sc_joined : FnScope n_joined p_joined (defScope s_joined) := ⟨rfl, rfl, rfl, by decide +kernel, rfl, by decide +kernel, by decide +kernel⟩
abbrev s_back : Stmt := top 45
abbrev n_back : List Str := ["kind", "value", "change"]
abbrev p_back : List Str := ["kind", "value", "change"]
theorem sc_back : FnScope n_back p_back (defScope s_back) := ⟨rfl, rfl, rfl, by decide +kernel, rfl, by decide +kernel, by decide +kernel⟩
abbrev s__law_urn : Stmt := top 50
abbrev n__law_urn : List Str := ["_law_script", "_law_turn", "_law_own", "_law_seed", "_law_cell"]
abbrev p__law_urn : List Str := ["_law_script", "_law_turn"]
theorem sc__law_urn : FnScope n__law_urn p__law_urn (defScope s__law_urn) := ⟨rfl, rfl, rfl, by decide +kernel, rfl, by decide +kernel, by decide +kernel⟩
abbrev s__law_pull : Stmt := top 51
abbrev n__law_pull : List Str := ["_law_urn_here", "_law_top", "_law_digit", "_law_seed"]
abbrev p__law_pull : List Str := ["_law_urn_here", "_law_top"]
theorem sc__law_pull : FnScope n__law_pull p__law_pull (defScope s__law_pull) := ⟨rfl, rfl, rfl, by decide +kernel, rfl, by decide +kernel, by decide +kernel⟩
abbrev s__law_one : Stmt := top 52
abbrev n__law_one : List Str := ["_law_urn_here", "_law_some"]
abbrev p__law_one : List Str := ["_law_urn_here", "_law_some"]
theorem sc__law_one : FnScope n__law_one p__law_one (defScope s__law_one) := ⟨rfl, rfl, rfl, by decide +kernel, rfl, by decide +kernel, by decide +kernel⟩
abbrev s__law_is : Stmt := top 53
abbrev n__law_is : List Str := ["_law_told", "_law_due"]
abbrev p__law_is : List Str := ["_law_told", "_law_due"]
theorem sc__law_is : FnScope n__law_is p__law_is (defScope s__law_is) := ⟨rfl, rfl, rfl, by decide +kernel, rfl, by decide +kernel, by decide +kernel⟩
abbrev s__law_truth : Stmt := top 54
abbrev n__law_truth : List Str := []
abbrev p__law_truth : List Str := []
theorem sc__law_truth : FnScope n__law_truth p__law_truth (defScope s__law_truth) := ⟨rfl, rfl, rfl, by decide +kernel, rfl, by decide +kernel, by decide +kernel⟩
abbrev s__law_plain_kind : Stmt := top 55
abbrev n__law_plain_kind : List Str := ["_law_urn_here", "_law_left", "_law_way", "_law_first"]
abbrev p__law_plain_kind : List Str := ["_law_urn_here", "_law_left"]
theorem sc__law_plain_kind : FnScope n__law_plain_kind p__law_plain_kind (defScope s__law_plain_kind) := ⟨rfl, rfl, rfl, by decide +kernel, rfl, by decide +kernel, by decide +kernel⟩
abbrev s__law_data_kind : Stmt := top 56
abbrev n__law_data_kind : List Str := ["_law_urn_here", "_law_left", "_law_way", "_law_first"]
abbrev p__law_data_kind : List Str := ["_law_urn_here", "_law_left"]
theorem sc__law_data_kind : FnScope n__law_data_kind p__law_data_kind (defScope s__law_data_kind) := ⟨rfl, rfl, rfl, by decide +kernel, rfl, by decide +kernel, by decide +kernel⟩
abbrev s__law_bag : Stmt := top 57
abbrev n__law_bag : List Str := ["_law_pairs", "_law_found", "_law_value_here", "_law_times"]
abbrev p__law_bag : List Str := ["_law_pairs"]
theorem sc__law_bag : FnScope n__law_bag p__law_bag (defScope s__law_bag) := ⟨rfl, rfl, rfl, by decide +kernel, rfl, by decide +kernel, by decide +kernel⟩
abbrev s__law_whole : Stmt := top 58
abbrev n__law_whole : List Str := ["_law_urn_here"]
abbrev p__law_whole : List Str := ["_law_urn_here"]
theorem sc__law_whole : FnScope n__law_whole p__law_whole (defScope s__law_whole) := ⟨rfl, rfl, rfl, by decide +kernel, rfl, by decide +kernel, by decide +kernel⟩
abbrev s__law_value : Stmt := top 59
abbrev n__law_value : List Str := ["_law_urn_here", "_law_kind", "_law_first", "_law_side", "_law_pairs", "_law_turn"]
abbrev p__law_value : List Str := ["_law_urn_here", "_law_kind"]
theorem sc__law_value : FnScope n__law_value p__law_value (defScope s__law_value) := ⟨rfl, rfl, rfl, by decide +kernel, rfl, by decide +kernel, by decide +kernel⟩
abbrev s__law_plus : Stmt := top 60
abbrev n__law_plus : List Str := ["_law_one_here", "_law_two"]
abbrev p__law_plus : List Str := ["_law_one_here", "_law_two"]
theorem sc__law_plus : FnScope n__law_plus p__law_plus (defScope s__law_plus) := ⟨rfl, rfl, rfl, by decide +kernel, rfl, by decide +kernel, by decide +kernel⟩
abbrev s__law_many : Stmt := top 61
abbrev n__law_many : List Str := ["_law_number", "_law_one_here", "_law_value_here", "_law_times"]
abbrev p__law_many : List Str := ["_law_number", "_law_one_here"]
theorem sc__law_many : FnScope n__law_many p__law_many (defScope s__law_many) := ⟨rfl, rfl, rfl, by decide +kernel, rfl, by decide +kernel, by decide +kernel⟩
abbrev s__law_led : Stmt := top 62
abbrev n__law_led : List Str := ["_law_kind", "_law_value_here", "_law_change_here"]
abbrev p__law_led : List Str := ["_law_kind", "_law_value_here", "_law_change_here"]
theorem sc__law_led : FnScope n__law_led p__law_led (defScope s__law_led) := ⟨rfl, rfl, rfl, by decide +kernel, rfl, by decide +kernel, by decide +kernel⟩
abbrev s__law_less : Stmt := top 63
abbrev n__law_less : List Str := ["_law_kind", "_law_new", "_law_old"]
abbrev p__law_less : List Str := ["_law_kind", "_law_new", "_law_old"]
theorem sc__law_less : FnScope n__law_less p__law_less (defScope s__law_less) := ⟨rfl, rfl, rfl, by decide +kernel, rfl, by decide +kernel, by decide +kernel⟩
abbrev s__law_joined : Stmt := top 64
abbrev n__law_joined : List Str := ["_law_kind", "_law_one_here", "_law_two", "_law_side"]
abbrev p__law_joined : List Str := ["_law_kind", "_law_one_here", "_law_two"]
theorem sc__law_joined : FnScope n__law_joined p__law_joined (defScope s__law_joined) := ⟨rfl, rfl, rfl, by decide +kernel, rfl, by decide +kernel, by decide +kernel⟩
abbrev s__law_change : Stmt := top 65
abbrev n__law_change : List Str := ["_law_urn_here", "_law_kind", "_law_value_here", "_law_first", "_law_same"]
abbrev p__law_change : List Str := ["_law_urn_here", "_law_kind", "_law_value_here"]
theorem sc__law_change : FnScope n__law_change p__law_change (defScope s__law_change) := ⟨rfl, rfl, rfl, by decide +kernel, rfl, by decide +kernel, by decide +kernel⟩
abbrev s__law_right : Stmt := top 66
abbrev n__law_right : List Str := ["_law_urn_here", "_law_turn", "_law_kind", "_law_value_here", "_law_one_here", "_law_mid", "_law_two", "_law_far", "_law_three", "_law_both", "_law_late", "_law_told", "_law_whole_here", "_law_again"]
abbrev p__law_right : List Str := ["_law_urn_here"]
theorem sc__law_right : FnScope n__law_right p__law_right (defScope s__law_right) := ⟨rfl, rfl, rfl, by decide +kernel, rfl, by decide +kernel, by decide +kernel⟩
abbrev s_law : Stmt := top 67
abbrev n_law : List Str := ["_law_script", "_law_turn"]
abbrev p_law : List Str := ["_law_script"]
theorem sc_law : FnScope n_law p_law (defScope s_law) := ⟨rfl, rfl, rfl, by decide +kernel, rfl, by decide +kernel, by decide +kernel⟩
end N25
namespace N25
open PySem PySem.Spec PyProof.Rows L2 Z M
section
variable {P : Program} {w : World} {K : PySem.W.Frag} {mg : Str → Option Value} {base : Heap}
theorem ok__has_form {n : Nat} (B : B0 mg) {f__has_form : Addr} {fd__has_form : FuncData} (D__has_form : Dfn K mg "_has_form" s__has_form p__has_form f__has_form fd__has_form) {a__PARTS : Addr} {es__PARTS : Array DictEntry} {z__PARTS : Nat} (C__PARTS : CTab K w mg "_PARTS" c__PARTS a__PARTS es__PARTS z__PARTS) : GOk P w K mg base (n + 1) f__has_form fd__has_form p__has_form (spM K 1 (m__has_form (n + 1))) :=
  mkM D__has_form.F sc__has_form rfl rfl fun cdv A outer s H E ng hr => ⟨_, (pss_cons (ps_if (PW.pt (pw_or (pt_not (pt_val (pe_callB (r := rIsi K) call_isi (by rfl) B.isinstance PyProof.Rows.boot_isinstance (pa_cons (pv 0) (pa_cons (pe_bltn (v := .ty "tuple") (by rfl) B.tuple (by decide +kernel) rfl) pa_nil))))) (pw_or1 (pt_cmpR (r := rEqA K) (op_eqA hr) (pe_callB (r := M.rLen K) c_lenA (by rfl) B.len PySem.boot_len (pa_cons (pv 0) pa_nil)) pe_int (nomark _))))) (pss_one (ps_ret pe_bl)) pss_nil)
    (pss_cons (ps_if (PW.pt (pw_or (pt_not (pt_val (pe_callB (r := rIsi K) call_isi (by rfl) B.isinstance PyProof.Rows.boot_isinstance (pa_cons (pe_ix (r := rIx K) ix_seq (pv 0) pe_int (fun _ _ => rfl)) (pa_cons (pe_bltn (v := .ty "str") (by rfl) B.str (by decide +kernel) rfl) pa_nil))))) (pw_or1 (pt_cmpR (op_notIn_kd C__PARTS.kd) (pe_ix (r := rIx K) ix_seq (pv 0) pe_int (fun _ _ => rfl)) (pe_glob (v := .ref _) (by rfl) C__PARTS.m rfl) (by rfl))))) (pss_one (ps_ret pe_bl)) pss_nil)
    (pss_one (ps_ret (pe_cmpR (r := rEqA K) (op_eqA hr) (pe_callB (r := M.rLen K) c_lenA (by rfl) B.len PySem.boot_len (pa_cons (pv 0) pa_nil)) (pe_op (r := (rAdd K)) op_plus pe_int (pe_ix (ix_kd C__PARTS.kd) (pe_glob (v := .ref _) (by rfl) C__PARTS.m rfl) (pe_ix (r := rIx K) ix_seq (pv 0) pe_int (fun _ _ => rfl)) (fun _ _ => rfl))) (nomark _)))))),
  (sv_seq (sv_if (tv_or (tv_not (tv_val (ev_cb rn_isi (av_cons (ev_var 0) (av_cons ev_ty av_nil))))) (tv_test (ev_op r2_eq (ev_cb rn_len (av_cons (ev_var 0) av_nil)) ev_int))) (sv_ret ev_bl) sv_next)
    (sv_seq (sv_if (tv_or (tv_not (tv_val (ev_cb rn_isi (av_cons (ev_op r2_ix (ev_var 0) ev_int) (av_cons ev_ty av_nil))))) (tv_test (ev_notInTab C__PARTS.kt (ev_op r2_ix (ev_var 0) ev_int)))) (sv_ret ev_bl) sv_next)
    (sv_ret (ev_op r2_eq (ev_cb rn_len (av_cons (ev_var 0) av_nil)) (ev_op r2_add ev_int (ev_tab C__PARTS.kt (ev_op r2_ix (ev_var 0) ev_int)))))))⟩
theorem ok__is_made_of {n : Nat} (B : B0 mg) {f__is_made_of : Addr} {fd__is_made_of : FuncData} (D__is_made_of : Dfn K mg "_is_made_of" s__is_made_of p__is_made_of f__is_made_of fd__is_made_of) (G__is_made_of : GOk P w K mg base n f__is_made_of fd__is_made_of p__is_made_of (spM K 2 (m__is_made_of n))) : GOk P w K mg base (n + 1) f__is_made_of fd__is_made_of p__is_made_of (spM K 2 (m__is_made_of (n + 1))) :=
  mkM D__is_made_of.F sc__is_made_of rfl rfl fun cdv A outer s H E ng hr => ⟨_, (pss_cons (ps_if (pt_cmpR (r := rIn K true) op_notIn_seq (pe_ix (r := rIx K) ix_seq (pv 0) pe_int (fun _ _ => rfl)) (pv 1) (by rfl)) (pss_one (ps_ret pe_bl)) pss_nil)
    (pss_cons (ps_for PassesOwn.never rfl (pi_any (pe_slice (r := rSlAny K) sl_any (pv 0) (po_some pe_int) po_none)) (pg_name (i := 2) sc__is_made_of.nd rfl (.inl rfl)) (pss_one (ps_if (pt_not (pt_val (pe_callG G__is_made_of ng hr (by rfl) D__is_made_of.m D__is_made_of.F.kp D__is_made_of.b .nil (pa_cons (pv 2) (pa_cons (pv 1) pa_nil))))) (pss_one (ps_ret pe_bl)) pss_nil)))
    (pss_one (ps_ret pe_bl)))),
  (sv_seq (sv_if (tv_test (ev_op r2_in (ev_op r2_ix (ev_var 0) ev_int) (ev_var 1))) (sv_ret ev_bl) sv_next)
    (sv_seq (sv_for (iv_any (ev_sl rs_sl (ev_var 0) (ov_some ev_int) ov_none)) (gv_name (vs := [2]) (by decide)) (sv_if (tv_not (tv_val (ev_call (av_cons (ev_var 2) (av_cons (ev_var 1) av_nil))))) (sv_ret ev_bl) sv_next))
    (sv_ret ev_bl)))⟩
theorem ok__is_kind_within {n : Nat} (B : B0 mg) {f__has_form : Addr} {fd__has_form : FuncData} (D__has_form : Dfn K mg "_has_form" s__has_form p__has_form f__has_form fd__has_form) {f__is_kind_within : Addr} {fd__is_kind_within : FuncData} (D__is_kind_within : Dfn K mg "_is_kind_within" s__is_kind_within p__is_kind_within f__is_kind_within fd__is_kind_within) {f__is_made_of : Addr} {fd__is_made_of : FuncData} (D__is_made_of : Dfn K mg "_is_made_of" s__is_made_of p__is_made_of f__is_made_of fd__is_made_of) (G__has_form : GOk P w K mg base n f__has_form fd__has_form p__has_form (spM K 1 (m__has_form n))) (G__is_kind_within : GOk P w K mg base n f__is_kind_within fd__is_kind_within p__is_kind_within (spM K 2 (m__is_kind_within n))) (G__is_made_of : GOk P w K mg base n f__is_made_of fd__is_made_of p__is_made_of (spM K 2 (m__is_made_of n))) {a__PLAIN_WORDS : Addr} (C__PLAIN_WORDS : CTup K mg "_PLAIN_WORDS" c__PLAIN_WORDS a__PLAIN_WORDS) : GOk P w K mg base (n + 1) f__is_kind_within fd__is_kind_within p__is_kind_within (spM K 2 (m__is_kind_within (n + 1))) :=
  mkM D__is_kind_within.F sc__is_kind_within rfl rfl fun cdv A outer s H E ng hr => ⟨_, (pss_cons (ps_if (PW.pt (pw_or (pt_cmpR (r := rEqA K) (op_eqA hr) (pv 1) pe_int (nomark _)) (pw_or1 (pt_not (pt_val (pe_callG G__has_form ng hr (by rfl) D__has_form.m D__has_form.F.kp D__has_form.b .nil (pa_cons (pv 0) pa_nil))))))) (pss_one (ps_ret pe_bl)) pss_nil)
    (pss_cons (ps_for PassesOwn.never rfl (pi_any (pe_slice (r := rSlAny K) sl_any (pv 0) (po_some pe_int) po_none)) (pg_name (i := 2) sc__is_kind_within.nd rfl (.inl rfl)) (pss_one (ps_if (pt_not (pt_val (pe_callG G__is_kind_within ng hr (by rfl) D__is_kind_within.m D__is_kind_within.F.kp D__is_kind_within.b .nil (pa_cons (pv 2) (pa_cons (pe_op (r := (rI0 fun i j => .int (i - j))) op_sub (pv 1) pe_int) pa_nil))))) (pss_one (ps_ret pe_bl)) pss_nil)))
    (pss_one (ps_ret (pe_or (pe_cmpR (r := rNeA K) (op_neA hr) (pe_ix (r := rIx K) ix_seq (pv 0) pe_int (fun _ _ => rfl)) pe_str (nomark _)) (pe_one (pe_callG G__is_made_of ng hr (by rfl) D__is_made_of.m D__is_made_of.F.kp D__is_made_of.b .nil (pa_cons (pe_ix (r := rIx K) ix_seq (pv 0) pe_int (fun _ _ => rfl)) (pa_cons (pe_glob (v := .ref _) (by rfl) C__PLAIN_WORDS.m rfl) pa_nil))))))))),
  (sv_seq (sv_if (tv_or (tv_test (ev_op r2_eq (ev_var 1) ev_int)) (tv_not (tv_val (ev_call (av_cons (ev_var 0) av_nil))))) (sv_ret ev_bl) sv_next)
    (sv_seq (sv_for (iv_any (ev_sl rs_sl (ev_var 0) (ov_some ev_int) ov_none)) (gv_name (vs := [2]) (by decide)) (sv_if (tv_not (tv_val (ev_call (av_cons (ev_var 2) (av_cons (ev_op r2_sub (ev_var 1) ev_int) av_nil))))) (sv_ret ev_bl) sv_next))
    (sv_ret (ev_or (ev_op r2_ne (ev_op r2_ix (ev_var 0) ev_int) ev_str) (ev_call (av_cons (ev_op r2_ix (ev_var 0) ev_int) (av_cons (ev_c C__PLAIN_WORDS.d) av_nil)))))))⟩
theorem ok_is_kind {n : Nat} (B : B0 mg) {f__is_kind_within : Addr} {fd__is_kind_within : FuncData} (D__is_kind_within : Dfn K mg "_is_kind_within" s__is_kind_within p__is_kind_within f__is_kind_within fd__is_kind_within) {f_is_kind : Addr} {fd_is_kind : FuncData} (D_is_kind : Dfn K mg "is_kind" s_is_kind p_is_kind f_is_kind fd_is_kind) (G__is_kind_within : GOk P w K mg base n f__is_kind_within fd__is_kind_within p__is_kind_within (spM K 2 (m__is_kind_within n))) {t__DEEPEST : Tok} (C__DEEPEST : mg "_DEEPEST" = some (.int 100 t__DEEPEST)) : GOk P w K mg base (n + 1) f_is_kind fd_is_kind p_is_kind (spM K 1 (m_is_kind (n + 1))) :=
  mkM D_is_kind.F sc_is_kind rfl rfl fun cdv A outer s H E ng hr => ⟨_, (pss_one (ps_ret (pe_callG G__is_kind_within ng hr (by rfl) D__is_kind_within.m D__is_kind_within.F.kp D__is_kind_within.b .nil (pa_cons (pv 0) (pa_cons (pe_glob (v := .int 100) (by rfl) C__DEEPEST ⟨_, rfl⟩) pa_nil))))),
  (sv_ret (ev_call (av_cons (ev_var 0) (av_cons ev_int av_nil))))⟩
theorem ok_is_known_data {n : Nat} (B : B0 mg) {f__is_made_of : Addr} {fd__is_made_of : FuncData} (D__is_made_of : Dfn K mg "_is_made_of" s__is_made_of p__is_made_of f__is_made_of fd__is_made_of) {f_is_known_data : Addr} {fd_is_known_data : FuncData} (D_is_known_data : Dfn K mg "is_known_data" s_is_known_data p_is_known_data f_is_known_data fd_is_known_data) (G__is_made_of : GOk P w K mg base n f__is_made_of fd__is_made_of p__is_made_of (spM K 2 (m__is_made_of n))) {a__DATA_WORDS : Addr} (C__DATA_WORDS : CTup K mg "_DATA_WORDS" c__DATA_WORDS a__DATA_WORDS) : GOk P w K mg base (n + 1) f_is_known_data fd_is_known_data p_is_known_data (spM K 1 (m_is_known_data (n + 1))) :=
  mkM D_is_known_data.F sc_is_known_data rfl rfl fun cdv A outer s H E ng hr => ⟨_, (pss_one (ps_ret (pe_callG G__is_made_of ng hr (by rfl) D__is_made_of.m D__is_made_of.F.kp D__is_made_of.b .nil (pa_cons (pv 0) (pa_cons (pe_glob (v := .ref _) (by rfl) C__DATA_WORDS.m rfl) pa_nil))))),
  (sv_ret (ev_call (av_cons (ev_var 0) (av_cons (ev_c C__DATA_WORDS.d) av_nil))))⟩
theorem ok_is_data_kind {n : Nat} (B : B0 mg) {f_is_data_kind : Addr} {fd_is_data_kind : FuncData} (D_is_data_kind : Dfn K mg "is_data_kind" s_is_data_kind p_is_data_kind f_is_data_kind fd_is_data_kind) {f_is_kind : Addr} {fd_is_kind : FuncData} (D_is_kind : Dfn K mg "is_kind" s_is_kind p_is_kind f_is_kind fd_is_kind) {f_is_known_data : Addr} {fd_is_known_data : FuncData} (D_is_known_data : Dfn K mg "is_known_data" s_is_known_data p_is_known_data f_is_known_data fd_is_known_data) (G_is_kind : GOk P w K mg base n f_is_kind fd_is_kind p_is_kind (spM K 1 (m_is_kind n))) (G_is_known_data : GOk P w K mg base n f_is_known_data fd_is_known_data p_is_known_data (spM K 1 (m_is_known_data n))) : GOk P w K mg base (n + 1) f_is_data_kind fd_is_data_kind p_is_data_kind (spM K 1 (m_is_data_kind (n + 1))) :=
  mkM D_is_data_kind.F sc_is_data_kind rfl rfl fun cdv A outer s H E ng hr => ⟨_, (pss_one (ps_ret (pe_and (pe_callG G_is_kind ng hr (by rfl) D_is_kind.m D_is_kind.F.kp D_is_kind.b .nil (pa_cons (pv 0) pa_nil)) (pe_one (pe_callG G_is_known_data ng hr (by rfl) D_is_known_data.m D_is_known_data.F.kp D_is_known_data.b .nil (pa_cons (pv 0) pa_nil)))))),
  (sv_ret (ev_and (ev_call (av_cons (ev_var 0) av_nil)) (ev_call (av_cons (ev_var 0) av_nil))))⟩
theorem ok_gathered {n : Nat} (B : B0 mg) {f_gathered : Addr} {fd_gathered : FuncData} (D_gathered : Dfn K mg "gathered" s_gathered p_gathered f_gathered fd_gathered) : GOk P w K mg base (n + 1) f_gathered fd_gathered p_gathered (spM K 1 (m_gathered (n + 1))) :=
  mkM D_gathered.F sc_gathered rfl rfl fun cdv A outer s H E ng hr => ⟨_, (pss_cons (ps_set (i := 1) sc_gathered.nd rfl (.inl rfl) (pe_lst pa_nil))
    (pss_cons (ps_for PassesOwn.never rfl (pi_any (pe_callB (r := rSortR K) (cr_sortR (u80 hr)) (by rfl) B.sorted PyProof.Rows.boot_sorted (pa_cons (pv 0) pa_nil))) (pg_tup (by rfl) (pgs_cons (pg_name (i := 2) sc_gathered.nd rfl (.inl rfl)) (pgs_cons (pg_name (i := 3) sc_gathered.nd rfl (.inl rfl)) pgs_nil))) (pss_one (ps_if (PW.pt (pw_and (pt_truth (pv 1) (by intro _; rfl)) (pw_and1 (pt_cmpR (r := rEqA K) (op_eqA hr) (pe_ix (r := rIx K) ix_seq (pe_ix (r := rIx K) ix_seq (pv 1) (pe_un un_neg pe_int) (fun _ _ => rfl)) pe_int (fun _ _ => rfl)) (pv 2) (nomark _))))) (pss_one (ps_asg (pe_tup (pa_cons (pv 2) (pa_cons (pe_op (r := (rAdd K)) op_plus (pe_ix (r := rIx K) ix_seq (pe_ix (r := rIx K) ix_seq (pv 1) (pe_un un_neg pe_int) (fun _ _ => rfl)) pe_int (fun _ _ => rfl)) (pv 3)) pa_nil))) (pg_sub (pv 1) (pe_un un_neg pe_int) set_list))) (pss_one (ps_expr (pe_bm (r := rAppend) PySem.F.plainAttrs_list PySem.F.slot_list_append PySem.F.type_list_append mt_append (pv 1) (pa_cons (pe_tup (pa_cons (pv 2) (pa_cons (pv 3) pa_nil))) pa_nil)))))))
    (pss_one (ps_ret (pe_callTy (r := wTupOf K) c_tuple (by rfl) B.tuple PyProof.Rows.boot_tuple (pa_cons (pe_lc (own := [("row", 4)]) (g := (gName 4)) (by rfl) sc_gathered.nd (pi_any (pv 1)) (blkOk_by (own := [("row", 4)]) (N := n_gathered) (sc := defScope s_gathered) (by decide +kernel)) (fun _ _ _ _ _ => (pg_name (i := 4) sc_gathered.nd rfl (.inl rfl))) (fun _ _ _ _ _ => pts_one (pt_cmpR (r := rNeA K) (op_neA hr) (pe_ix (r := rIx K) ix_seq (pv 4) pe_int (fun _ _ => rfl)) pe_int (nomark _))) (fun _ _ _ _ _ => (pv 4))) pa_nil)))))),
  (sv_seq (sv_asg (ev_lstC av_nil) (gv_name (vs := [1]) (by decide)))
    (sv_seq (sv_for (iv_any (ev_cb rn_sortR (av_cons (ev_var 0) av_nil))) (gv_tup (gsv_cons (gv_name (vs := [2, 3]) (by decide)) (gsv_cons (gv_name (vs := [2, 3]) (by decide)) gsv_nil))) (sv_if (tv_and (tv_tru (ev_var 1)) (tv_test (ev_op r2_eq (ev_op r2_ix (ev_op r2_ix (ev_var 1) (ev_un r1_neg ev_int)) ev_int) (ev_var 2)))) (sv_asg (ev_tup (av_cons (ev_var 2) (av_cons (ev_op r2_add (ev_op r2_ix (ev_op r2_ix (ev_var 1) (ev_un r1_neg ev_int)) ev_int) (ev_var 3)) av_nil))) (gv_sub (ws := []) (ev_var 1) (ev_un r1_neg ev_int))) (sv_drop (ev_app (ev_var 1) (av_cons (ev_tup (av_cons (ev_var 2) (av_cons (ev_var 3) av_nil))) av_nil)))))
    (sv_ret (ev_cb rn_tuple (av_cons (ev_lc (iv_any (ev_var 1)) (gv_name (vs := [4]) (by decide)) (tv_test (ev_op r2_ne (ev_op r2_ix (ev_var 4) ev_int) ev_int)) (ev_var 4)) av_nil)))))⟩
theorem ok_plus_in {n : Nat} (B : B0 mg) {f_gathered : Addr} {fd_gathered : FuncData} (D_gathered : Dfn K mg "gathered" s_gathered p_gathered f_gathered fd_gathered) {f_plus_in : Addr} {fd_plus_in : FuncData} (D_plus_in : Dfn K mg "plus_in" s_plus_in p_plus_in f_plus_in fd_plus_in) (G_gathered : GOk P w K mg base n f_gathered fd_gathered p_gathered (spM K 1 (m_gathered n))) (G_plus_in : GOk P w K mg base n f_plus_in fd_plus_in p_plus_in (spM K 3 (m_plus_in n))) : GOk P w K mg base (n + 1) f_plus_in fd_plus_in p_plus_in (spM K 3 (m_plus_in (n + 1))) :=
  mkM D_plus_in.F sc_plus_in rfl rfl fun cdv A outer s H E ng hr => ⟨_, (pss_cons (ps_if (pt_cmpR (r := rEqA K) (op_eqA hr) (pe_ix (r := rIx K) ix_seq (pv 0) pe_int (fun _ _ => rfl)) pe_str (nomark _)) (pss_one (ps_ret (pe_op (r := (rAdd K)) op_plus (pv 1) (pv 2)))) pss_nil)
    (pss_cons (ps_if (pt_cmpR (r := rEqA K) (op_eqA hr) (pe_ix (r := rIx K) ix_seq (pv 0) pe_int (fun _ _ => rfl)) pe_str (nomark _)) (pss_one (ps_ret (pe_callG G_gathered ng hr (by rfl) D_gathered.m D_gathered.F.kp D_gathered.b .nil (pa_cons (pe_op (r := (rAdd K)) op_plus (pv 1) (pv 2)) pa_nil)))) pss_nil)
    (pss_one (ps_ret (pe_tup (pa_cons pe_str (pa_cons (pe_callG G_plus_in ng hr (by rfl) D_plus_in.m D_plus_in.F.kp D_plus_in.b .nil (pa_cons (pe_ix (r := rIx K) ix_seq (pv 0) pe_int (fun _ _ => rfl)) (pa_cons (pe_ix (r := rIx K) ix_seq (pv 1) pe_int (fun _ _ => rfl)) (pa_cons (pe_ix (r := rIx K) ix_seq (pv 2) pe_int (fun _ _ => rfl)) pa_nil)))) (pa_cons (pe_callG G_plus_in ng hr (by rfl) D_plus_in.m D_plus_in.F.kp D_plus_in.b .nil (pa_cons (pe_ix (r := rIx K) ix_seq (pv 0) pe_int (fun _ _ => rfl)) (pa_cons (pe_ix (r := rIx K) ix_seq (pv 1) pe_int (fun _ _ => rfl)) (pa_cons (pe_ix (r := rIx K) ix_seq (pv 2) pe_int (fun _ _ => rfl)) pa_nil)))) pa_nil)))))))),
  (sv_seq (sv_if (tv_test (ev_op r2_eq (ev_op r2_ix (ev_var 0) ev_int) ev_str)) (sv_ret (ev_op r2_add (ev_var 1) (ev_var 2))) sv_next)
    (sv_seq (sv_if (tv_test (ev_op r2_eq (ev_op r2_ix (ev_var 0) ev_int) ev_str)) (sv_ret (ev_call (av_cons (ev_op r2_add (ev_var 1) (ev_var 2)) av_nil))) sv_next)
    (sv_ret (ev_tup (av_cons ev_str (av_cons (ev_call (av_cons (ev_op r2_ix (ev_var 0) ev_int) (av_cons (ev_op r2_ix (ev_var 1) ev_int) (av_cons (ev_op r2_ix (ev_var 2) ev_int) av_nil)))) (av_cons (ev_call (av_cons (ev_op r2_ix (ev_var 0) ev_int) (av_cons (ev_op r2_ix (ev_var 1) ev_int) (av_cons (ev_op r2_ix (ev_var 2) ev_int) av_nil)))) av_nil)))))))⟩
theorem ok__bag_times {n : Nat} (B : B0 mg) {f__bag_times : Addr} {fd__bag_times : FuncData} (D__bag_times : Dfn K mg "_bag_times" s__bag_times p__bag_times f__bag_times fd__bag_times) : GOk P w K mg base (n + 1) f__bag_times fd__bag_times p__bag_times (spM K 2 (m__bag_times (n + 1))) :=
  mkM D__bag_times.F sc__bag_times rfl rfl fun cdv A outer s H E ng hr => ⟨_, (pss_cons (ps_if (pt_cmpR (r := rEqA K) (op_eqA hr) (pv 0) pe_int (nomark _)) (pss_one (ps_ret (pe_tup pa_nil))) pss_nil)
    (pss_one (ps_ret (pe_callTy (r := wTupOf K) c_tuple (by rfl) B.tuple PyProof.Rows.boot_tuple (pa_cons (pe_lc (own := [("held", 2), ("many", 3)]) (g := (gTup K 2 (gCons (gName 2) (gCons (gName 3) gNil)))) (tt := tYes) (by rfl) sc__bag_times.nd (pi_any (pv 1)) (blkOk_by (own := [("held", 2), ("many", 3)]) (N := n__bag_times) (sc := defScope s__bag_times) (by decide +kernel)) (fun _ _ _ _ _ => (pg_tup (by rfl) (pgs_cons (pg_name (i := 2) sc__bag_times.nd rfl (.inl rfl)) (pgs_cons (pg_name (i := 3) sc__bag_times.nd rfl (.inl rfl)) pgs_nil)))) (fun _ _ _ _ _ => pts_nil) (fun _ _ _ _ _ => (pe_tup (pa_cons (pv 2) (pa_cons (pe_op (r := (rMul K)) op_star (pv 0) (pv 3)) pa_nil))))) pa_nil))))),
  (sv_seq (sv_if (tv_test (ev_op r2_eq (ev_var 0) ev_int)) (sv_ret (ev_tup av_nil)) sv_next)
    (sv_ret (ev_cb rn_tuple (av_cons (ev_lc (iv_any (ev_var 1)) (gv_tup (gsv_cons (gv_name (vs := [2, 3]) (by decide)) (gsv_cons (gv_name (vs := [2, 3]) (by decide)) gsv_nil))) tv_yes (ev_tup (av_cons (ev_var 2) (av_cons (ev_op r2_mul (ev_var 0) (ev_var 3)) av_nil)))) av_nil))))⟩
theorem ok_times_in {n : Nat} (B : B0 mg) {f__bag_times : Addr} {fd__bag_times : FuncData} (D__bag_times : Dfn K mg "_bag_times" s__bag_times p__bag_times f__bag_times fd__bag_times) {f_times_in : Addr} {fd_times_in : FuncData} (D_times_in : Dfn K mg "times_in" s_times_in p_times_in f_times_in fd_times_in) (G__bag_times : GOk P w K mg base n f__bag_times fd__bag_times p__bag_times (spM K 2 (m__bag_times n))) (G_times_in : GOk P w K mg base n f_times_in fd_times_in p_times_in (spM K 3 (m_times_in n))) : GOk P w K mg base (n + 1) f_times_in fd_times_in p_times_in (spM K 3 (m_times_in (n + 1))) :=
  mkM D_times_in.F sc_times_in rfl rfl fun cdv A outer s H E ng hr => ⟨_, (pss_cons (ps_if (pt_cmpR (r := rEqA K) (op_eqA hr) (pe_ix (r := rIx K) ix_seq (pv 0) pe_int (fun _ _ => rfl)) pe_str (nomark _)) (pss_one (ps_ret (pe_op (r := (rMul K)) op_star (pv 1) (pv 2)))) pss_nil)
    (pss_cons (ps_if (pt_cmpR (r := rEqA K) (op_eqA hr) (pe_ix (r := rIx K) ix_seq (pv 0) pe_int (fun _ _ => rfl)) pe_str (nomark _)) (pss_one (ps_ret (pe_callG G__bag_times ng hr (by rfl) D__bag_times.m D__bag_times.F.kp D__bag_times.b .nil (pa_cons (pv 1) (pa_cons (pv 2) pa_nil))))) pss_nil)
    (pss_one (ps_ret (pe_tup (pa_cons pe_str (pa_cons (pe_callG G_times_in ng hr (by rfl) D_times_in.m D_times_in.F.kp D_times_in.b .nil (pa_cons (pe_ix (r := rIx K) ix_seq (pv 0) pe_int (fun _ _ => rfl)) (pa_cons (pv 1) (pa_cons (pe_ix (r := rIx K) ix_seq (pv 2) pe_int (fun _ _ => rfl)) pa_nil)))) (pa_cons (pe_callG G_times_in ng hr (by rfl) D_times_in.m D_times_in.F.kp D_times_in.b .nil (pa_cons (pe_ix (r := rIx K) ix_seq (pv 0) pe_int (fun _ _ => rfl)) (pa_cons (pv 1) (pa_cons (pe_ix (r := rIx K) ix_seq (pv 2) pe_int (fun _ _ => rfl)) pa_nil)))) pa_nil)))))))),
  (sv_seq (sv_if (tv_test (ev_op r2_eq (ev_op r2_ix (ev_var 0) ev_int) ev_str)) (sv_ret (ev_op r2_mul (ev_var 1) (ev_var 2))) sv_next)
    (sv_seq (sv_if (tv_test (ev_op r2_eq (ev_op r2_ix (ev_var 0) ev_int) ev_str)) (sv_ret (ev_call (av_cons (ev_var 1) (av_cons (ev_var 2) av_nil)))) sv_next)
    (sv_ret (ev_tup (av_cons ev_str (av_cons (ev_call (av_cons (ev_op r2_ix (ev_var 0) ev_int) (av_cons (ev_var 1) (av_cons (ev_op r2_ix (ev_var 2) ev_int) av_nil)))) (av_cons (ev_call (av_cons (ev_op r2_ix (ev_var 0) ev_int) (av_cons (ev_var 1) (av_cons (ev_op r2_ix (ev_var 2) ev_int) av_nil)))) av_nil)))))))⟩
theorem ok_kind_of_changes {n : Nat} (B : B0 mg) {f_kind_of_changes : Addr} {fd_kind_of_changes : FuncData} (D_kind_of_changes : Dfn K mg "kind_of_changes" s_kind_of_changes p_kind_of_changes f_kind_of_changes fd_kind_of_changes) (G_kind_of_changes : GOk P w K mg base n f_kind_of_changes fd_kind_of_changes p_kind_of_changes (spM K 1 (m_kind_of_changes n))) : GOk P w K mg base (n + 1) f_kind_of_changes fd_kind_of_changes p_kind_of_changes (spM K 1 (m_kind_of_changes (n + 1))) :=
  mkM D_kind_of_changes.F sc_kind_of_changes rfl rfl fun cdv A outer s H E ng hr => ⟨_, (pss_cons (ps_if (pt_cmpR (r := rEqA K) (op_eqA hr) (pe_ix (r := rIx K) ix_seq (pv 0) pe_int (fun _ _ => rfl)) pe_str (nomark _)) (pss_one (ps_ret (pe_tup (pa_cons pe_str (pa_cons (pe_callG G_kind_of_changes ng hr (by rfl) D_kind_of_changes.m D_kind_of_changes.F.kp D_kind_of_changes.b .nil (pa_cons (pe_ix (r := rIx K) ix_seq (pv 0) pe_int (fun _ _ => rfl)) pa_nil)) (pa_cons (pe_callG G_kind_of_changes ng hr (by rfl) D_kind_of_changes.m D_kind_of_changes.F.kp D_kind_of_changes.b .nil (pa_cons (pe_ix (r := rIx K) ix_seq (pv 0) pe_int (fun _ _ => rfl)) pa_nil)) pa_nil)))))) pss_nil)
    (pss_cons (ps_if (pt_cmpR (r := rEqA K) (op_eqA hr) (pe_ix (r := rIx K) ix_seq (pv 0) pe_int (fun _ _ => rfl)) pe_str (nomark _)) (pss_one (ps_ret (pe_tup (pa_cons pe_str (pa_cons (pe_tup (pa_cons pe_str (pa_cons (pe_callG G_kind_of_changes ng hr (by rfl) D_kind_of_changes.m D_kind_of_changes.F.kp D_kind_of_changes.b .nil (pa_cons (pe_ix (r := rIx K) ix_seq (pv 0) pe_int (fun _ _ => rfl)) pa_nil)) (pa_cons (pe_callG G_kind_of_changes ng hr (by rfl) D_kind_of_changes.m D_kind_of_changes.F.kp D_kind_of_changes.b .nil (pa_cons (pe_ix (r := rIx K) ix_seq (pv 0) pe_int (fun _ _ => rfl)) pa_nil)) pa_nil)))) (pa_cons (pv 0) pa_nil)))))) pss_nil)
    (pss_cons (ps_if (pt_cmpR (r := rEqA K) (op_eqA hr) (pe_ix (r := rIx K) ix_seq (pv 0) pe_int (fun _ _ => rfl)) pe_str (nomark _)) (pss_one (ps_ret (pe_tup (pa_cons pe_str (pa_cons (pe_ix (r := rIx K) ix_seq (pv 0) pe_int (fun _ _ => rfl)) (pa_cons (pe_tup (pa_cons pe_str (pa_cons (pe_callG G_kind_of_changes ng hr (by rfl) D_kind_of_changes.m D_kind_of_changes.F.kp D_kind_of_changes.b .nil (pa_cons (pe_ix (r := rIx K) ix_seq (pv 0) pe_int (fun _ _ => rfl)) pa_nil)) (pa_cons (pe_callG G_kind_of_changes ng hr (by rfl) D_kind_of_changes.m D_kind_of_changes.F.kp D_kind_of_changes.b .nil (pa_cons (pe_ix (r := rIx K) ix_seq (pv 0) pe_int (fun _ _ => rfl)) pa_nil)) pa_nil)))) pa_nil)))))) pss_nil)
    (pss_one (ps_ret (pv 0)))))),
  (sv_seq (sv_if (tv_test (ev_op r2_eq (ev_op r2_ix (ev_var 0) ev_int) ev_str)) (sv_ret (ev_tup (av_cons ev_str (av_cons (ev_call (av_cons (ev_op r2_ix (ev_var 0) ev_int) av_nil)) (av_cons (ev_call (av_cons (ev_op r2_ix (ev_var 0) ev_int) av_nil)) av_nil))))) sv_next)
    (sv_seq (sv_if (tv_test (ev_op r2_eq (ev_op r2_ix (ev_var 0) ev_int) ev_str)) (sv_ret (ev_tup (av_cons ev_str (av_cons (ev_tup (av_cons ev_str (av_cons (ev_call (av_cons (ev_op r2_ix (ev_var 0) ev_int) av_nil)) (av_cons (ev_call (av_cons (ev_op r2_ix (ev_var 0) ev_int) av_nil)) av_nil)))) (av_cons (ev_var 0) av_nil))))) sv_next)
    (sv_seq (sv_if (tv_test (ev_op r2_eq (ev_op r2_ix (ev_var 0) ev_int) ev_str)) (sv_ret (ev_tup (av_cons ev_str (av_cons (ev_op r2_ix (ev_var 0) ev_int) (av_cons (ev_tup (av_cons ev_str (av_cons (ev_call (av_cons (ev_op r2_ix (ev_var 0) ev_int) av_nil)) (av_cons (ev_call (av_cons (ev_op r2_ix (ev_var 0) ev_int) av_nil)) av_nil)))) av_nil))))) sv_next)
    (sv_ret (ev_var 0)))))⟩
theorem ok__side_kind {n : Nat} (B : B0 mg) {f__side_kind : Addr} {fd__side_kind : FuncData} (D__side_kind : Dfn K mg "_side_kind" s__side_kind p__side_kind f__side_kind fd__side_kind) : GOk P w K mg base (n + 1) f__side_kind fd__side_kind p__side_kind (spM K 2 (m__side_kind (n + 1))) :=
  mkM D__side_kind.F sc__side_kind rfl rfl fun cdv A outer s H E ng hr => ⟨_, (pss_one (ps_ret (pe_ifExp (pt_cmpR (r := rEqA K) (op_eqA hr) (pe_ix (r := rIx K) ix_seq (pv 1) pe_int (fun _ _ => rfl)) pe_str (nomark _)) (pe_ix (r := rIx K) ix_seq (pv 0) pe_int (fun _ _ => rfl)) (pe_ix (r := rIx K) ix_seq (pv 0) pe_int (fun _ _ => rfl))))),
  (sv_ret (ev_if (tv_test (ev_op r2_eq (ev_op r2_ix (ev_var 1) ev_int) ev_str)) (ev_op r2_ix (ev_var 0) ev_int) (ev_op r2_ix (ev_var 0) ev_int)))⟩
theorem ok_fits_in {n : Nat} (B : B0 mg) {f__side_kind : Addr} {fd__side_kind : FuncData} (D__side_kind : Dfn K mg "_side_kind" s__side_kind p__side_kind f__side_kind fd__side_kind) {f_fits_in : Addr} {fd_fits_in : FuncData} (D_fits_in : Dfn K mg "fits_in" s_fits_in p_fits_in f_fits_in fd_fits_in) (G__side_kind : GOk P w K mg base n f__side_kind fd__side_kind p__side_kind (spM K 2 (m__side_kind n))) (G_fits_in : GOk P w K mg base n f_fits_in fd_fits_in p_fits_in (spM K 3 (m_fits_in n))) : GOk P w K mg base (n + 1) f_fits_in fd_fits_in p_fits_in (spM K 3 (m_fits_in (n + 1))) :=
  mkM D_fits_in.F sc_fits_in rfl rfl fun cdv A outer s H E ng hr => ⟨_, (pss_cons (ps_if (pt_cmpR (r := rEqA K) (op_eqA hr) (pe_ix (r := rIx K) ix_seq (pv 0) pe_int (fun _ _ => rfl)) pe_str (nomark _)) (pss_one (ps_ret (pe_and (pe_callG G_fits_in ng hr (by rfl) D_fits_in.m D_fits_in.F.kp D_fits_in.b .nil (pa_cons (pe_ix (r := rIx K) ix_seq (pv 0) pe_int (fun _ _ => rfl)) (pa_cons (pe_ix (r := rIx K) ix_seq (pv 1) pe_int (fun _ _ => rfl)) (pa_cons (pe_ix (r := rIx K) ix_seq (pv 2) pe_int (fun _ _ => rfl)) pa_nil)))) (pe_one (pe_callG G_fits_in ng hr (by rfl) D_fits_in.m D_fits_in.F.kp D_fits_in.b .nil (pa_cons (pe_ix (r := rIx K) ix_seq (pv 0) pe_int (fun _ _ => rfl)) (pa_cons (pe_ix (r := rIx K) ix_seq (pv 1) pe_int (fun _ _ => rfl)) (pa_cons (pe_ix (r := rIx K) ix_seq (pv 2) pe_int (fun _ _ => rfl)) pa_nil)))))))) pss_nil)
    (pss_cons (ps_if (PW.pt (pw_and (pt_cmpR (r := rEqA K) (op_eqA hr) (pe_ix (r := rIx K) ix_seq (pv 0) pe_int (fun _ _ => rfl)) pe_str (nomark _)) (pw_and1 (pt_cmpR (r := rEqA K) (op_eqA hr) (pe_ix (r := rIx K) ix_seq (pv 2) pe_int (fun _ _ => rfl)) pe_str (nomark _))))) (pss_cons (ps_set (i := 3) sc_fits_in.nd rfl (.inl rfl) (pe_ix (r := rIx K) ix_seq (pv 2) pe_int (fun _ _ => rfl)))
    (pss_one (ps_ret (pe_and (pe_cmpR (r := rEqA K) (op_eqA hr) (pe_ix (r := rIx K) ix_seq (pv 3) pe_int (fun _ _ => rfl)) (pe_ix (r := rIx K) ix_seq (pv 1) pe_int (fun _ _ => rfl)) (nomark _)) (pe_one (pe_callG G_fits_in ng hr (by rfl) D_fits_in.m D_fits_in.F.kp D_fits_in.b .nil (pa_cons (pe_callG G__side_kind ng hr (by rfl) D__side_kind.m D__side_kind.F.kp D__side_kind.b .nil (pa_cons (pv 0) (pa_cons (pv 1) pa_nil))) (pa_cons (pe_ix (r := rIx K) ix_seq (pv 1) pe_int (fun _ _ => rfl)) (pa_cons (pe_ix (r := rIx K) ix_seq (pv 3) pe_int (fun _ _ => rfl)) pa_nil))))))))) pss_nil)
    (pss_one (ps_ret pe_bl)))),
  (sv_seq (sv_if (tv_test (ev_op r2_eq (ev_op r2_ix (ev_var 0) ev_int) ev_str)) (sv_ret (ev_and (ev_call (av_cons (ev_op r2_ix (ev_var 0) ev_int) (av_cons (ev_op r2_ix (ev_var 1) ev_int) (av_cons (ev_op r2_ix (ev_var 2) ev_int) av_nil)))) (ev_call (av_cons (ev_op r2_ix (ev_var 0) ev_int) (av_cons (ev_op r2_ix (ev_var 1) ev_int) (av_cons (ev_op r2_ix (ev_var 2) ev_int) av_nil)))))) sv_next)
    (sv_seq (sv_if (tv_and (tv_test (ev_op r2_eq (ev_op r2_ix (ev_var 0) ev_int) ev_str)) (tv_test (ev_op r2_eq (ev_op r2_ix (ev_var 2) ev_int) ev_str))) (sv_seq (sv_asg (ev_op r2_ix (ev_var 2) ev_int) (gv_name (vs := [3]) (by decide)))
    (sv_ret (ev_and (ev_op r2_eq (ev_op r2_ix (ev_var 3) ev_int) (ev_op r2_ix (ev_var 1) ev_int)) (ev_call (av_cons (ev_call (av_cons (ev_var 0) (av_cons (ev_var 1) av_nil))) (av_cons (ev_op r2_ix (ev_var 1) ev_int) (av_cons (ev_op r2_ix (ev_var 3) ev_int) av_nil))))))) sv_next)
    (sv_ret ev_bl)))⟩
end
end N25
namespace N25
open PySem PySem.Spec PyProof.Rows L2 Z M
section
variable {P : Program} {w : World} {K : PySem.W.Frag} {mg : Str → Option Value} {base : Heap}
theorem ok_led_in {n : Nat} (B : B0 mg) {f__led_side : Addr} {fd__led_side : FuncData} (D__led_side : Dfn K mg "_led_side" s__led_side p__led_side f__led_side fd__led_side) {f_led_in : Addr} {fd_led_in : FuncData} (D_led_in : Dfn K mg "led_in" s_led_in p_led_in f_led_in fd_led_in) {f_plus_in : Addr} {fd_plus_in : FuncData} (D_plus_in : Dfn K mg "plus_in" s_plus_in p_plus_in f_plus_in fd_plus_in) (G__led_side : GOk P w K mg base n f__led_side fd__led_side p__led_side (spM K 3 (m__led_side n))) (G_led_in : GOk P w K mg base n f_led_in fd_led_in p_led_in (spM K 3 (m_led_in n))) (G_plus_in : GOk P w K mg base n f_plus_in fd_plus_in p_plus_in (spM K 3 (m_plus_in n))) : GOk P w K mg base (n + 1) f_led_in fd_led_in p_led_in (spM K 3 (m_led_in (n + 1))) :=
  mkM D_led_in.F sc_led_in rfl rfl fun cdv A outer s H E ng hr => ⟨_, (pss_cons (ps_if (pt_cmpR (r := rEqA K) (op_eqA hr) (pe_ix (r := rIx K) ix_seq (pv 0) pe_int (fun _ _ => rfl)) pe_str (nomark _)) (pss_one (ps_ret (pe_tup pa_nil))) pss_nil)
    (pss_cons (ps_if (pt_cmpR (r := rEqA K) (op_eqA hr) (pe_ix (r := rIx K) ix_seq (pv 0) pe_int (fun _ _ => rfl)) pe_str (nomark _)) (pss_one (ps_ret (pe_tup (pa_cons pe_str (pa_cons (pe_callG G_led_in ng hr (by rfl) D_led_in.m D_led_in.F.kp D_led_in.b .nil (pa_cons (pe_ix (r := rIx K) ix_seq (pv 0) pe_int (fun _ _ => rfl)) (pa_cons (pe_ix (r := rIx K) ix_seq (pv 1) pe_int (fun _ _ => rfl)) (pa_cons (pe_ix (r := rIx K) ix_seq (pv 2) pe_int (fun _ _ => rfl)) pa_nil)))) (pa_cons (pe_callG G_led_in ng hr (by rfl) D_led_in.m D_led_in.F.kp D_led_in.b .nil (pa_cons (pe_ix (r := rIx K) ix_seq (pv 0) pe_int (fun _ _ => rfl)) (pa_cons (pe_ix (r := rIx K) ix_seq (pv 1) pe_int (fun _ _ => rfl)) (pa_cons (pe_ix (r := rIx K) ix_seq (pv 2) pe_int (fun _ _ => rfl)) pa_nil)))) pa_nil)))))) pss_nil)
    (pss_cons (ps_if (pt_cmpR (r := rEqA K) (op_eqA hr) (pe_ix (r := rIx K) ix_seq (pv 0) pe_int (fun _ _ => rfl)) pe_str (nomark _)) (pss_one (ps_ret (pe_callG G__led_side ng hr (by rfl) D__led_side.m D__led_side.F.kp D__led_side.b .nil (pa_cons (pv 0) (pa_cons (pv 1) (pa_cons (pv 2) pa_nil)))))) pss_nil)
    (pss_one (ps_ret (pe_callG G_plus_in ng hr (by rfl) D_plus_in.m D_plus_in.F.kp D_plus_in.b .nil (pa_cons (pv 0) (pa_cons (pv 1) (pa_cons (pv 2) pa_nil))))))))),
  (sv_seq (sv_if (tv_test (ev_op r2_eq (ev_op r2_ix (ev_var 0) ev_int) ev_str)) (sv_ret (ev_tup av_nil)) sv_next)
    (sv_seq (sv_if (tv_test (ev_op r2_eq (ev_op r2_ix (ev_var 0) ev_int) ev_str)) (sv_ret (ev_tup (av_cons ev_str (av_cons (ev_call (av_cons (ev_op r2_ix (ev_var 0) ev_int) (av_cons (ev_op r2_ix (ev_var 1) ev_int) (av_cons (ev_op r2_ix (ev_var 2) ev_int) av_nil)))) (av_cons (ev_call (av_cons (ev_op r2_ix (ev_var 0) ev_int) (av_cons (ev_op r2_ix (ev_var 1) ev_int) (av_cons (ev_op r2_ix (ev_var 2) ev_int) av_nil)))) av_nil))))) sv_next)
    (sv_seq (sv_if (tv_test (ev_op r2_eq (ev_op r2_ix (ev_var 0) ev_int) ev_str)) (sv_ret (ev_call (av_cons (ev_var 0) (av_cons (ev_var 1) (av_cons (ev_var 2) av_nil))))) sv_next)
    (sv_ret (ev_call (av_cons (ev_var 0) (av_cons (ev_var 1) (av_cons (ev_var 2) av_nil))))))))⟩
theorem ok__led_side {n : Nat} (B : B0 mg) {f__led_side : Addr} {fd__led_side : FuncData} (D__led_side : Dfn K mg "_led_side" s__led_side p__led_side f__led_side fd__led_side) {f__side_kind : Addr} {fd__side_kind : FuncData} (D__side_kind : Dfn K mg "_side_kind" s__side_kind p__side_kind f__side_kind fd__side_kind) {f_led_in : Addr} {fd_led_in : FuncData} (D_led_in : Dfn K mg "led_in" s_led_in p_led_in f_led_in fd_led_in) (G__side_kind : GOk P w K mg base n f__side_kind fd__side_kind p__side_kind (spM K 2 (m__side_kind n))) (G_led_in : GOk P w K mg base n f_led_in fd_led_in p_led_in (spM K 3 (m_led_in n))) : GOk P w K mg base (n + 1) f__led_side fd__led_side p__led_side (spM K 3 (m__led_side (n + 1))) :=
  mkM D__led_side.F sc__led_side rfl rfl fun cdv A outer s H E ng hr => ⟨_, (pss_cons (ps_if (pt_cmpR (r := rEqA K) (op_eqA hr) (pe_ix (r := rIx K) ix_seq (pv 2) pe_int (fun _ _ => rfl)) pe_str (nomark _)) (pss_one (ps_ret (pe_ix (r := rIx K) ix_seq (pv 2) pe_int (fun _ _ => rfl)))) pss_nil)
    (pss_cons (ps_set (i := 3) sc__led_side.nd rfl (.inl rfl) (pe_ix (r := rIx K) ix_seq (pv 2) pe_int (fun _ _ => rfl)))
    (pss_cons (ps_if (pt_cmpR (r := rNeA K) (op_neA hr) (pe_ix (r := rIx K) ix_seq (pv 3) pe_int (fun _ _ => rfl)) (pe_ix (r := rIx K) ix_seq (pv 1) pe_int (fun _ _ => rfl)) (nomark _)) (pss_one (ps_ret (pv 1))) pss_nil)
    (pss_one (ps_ret (pe_tup (pa_cons (pe_ix (r := rIx K) ix_seq (pv 1) pe_int (fun _ _ => rfl)) (pa_cons (pe_callG G_led_in ng hr (by rfl) D_led_in.m D_led_in.F.kp D_led_in.b .nil (pa_cons (pe_callG G__side_kind ng hr (by rfl) D__side_kind.m D__side_kind.F.kp D__side_kind.b .nil (pa_cons (pv 0) (pa_cons (pv 1) pa_nil))) (pa_cons (pe_ix (r := rIx K) ix_seq (pv 1) pe_int (fun _ _ => rfl)) (pa_cons (pe_ix (r := rIx K) ix_seq (pv 3) pe_int (fun _ _ => rfl)) pa_nil)))) pa_nil)))))))),
  (sv_seq (sv_if (tv_test (ev_op r2_eq (ev_op r2_ix (ev_var 2) ev_int) ev_str)) (sv_ret (ev_op r2_ix (ev_var 2) ev_int)) sv_next)
    (sv_seq (sv_asg (ev_op r2_ix (ev_var 2) ev_int) (gv_name (vs := [3]) (by decide)))
    (sv_seq (sv_if (tv_test (ev_op r2_ne (ev_op r2_ix (ev_var 3) ev_int) (ev_op r2_ix (ev_var 1) ev_int))) (sv_ret (ev_var 1)) sv_next)
    (sv_ret (ev_tup (av_cons (ev_op r2_ix (ev_var 1) ev_int) (av_cons (ev_call (av_cons (ev_call (av_cons (ev_var 0) (av_cons (ev_var 1) av_nil))) (av_cons (ev_op r2_ix (ev_var 1) ev_int) (av_cons (ev_op r2_ix (ev_var 3) ev_int) av_nil)))) av_nil)))))))⟩
theorem ok_less_in {n : Nat} (B : B0 mg) {f__side_kind : Addr} {fd__side_kind : FuncData} (D__side_kind : Dfn K mg "_side_kind" s__side_kind p__side_kind f__side_kind fd__side_kind) {f_less_in : Addr} {fd_less_in : FuncData} (D_less_in : Dfn K mg "less_in" s_less_in p_less_in f_less_in fd_less_in) {f_plus_in : Addr} {fd_plus_in : FuncData} (D_plus_in : Dfn K mg "plus_in" s_plus_in p_plus_in f_plus_in fd_plus_in) {f_times_in : Addr} {fd_times_in : FuncData} (D_times_in : Dfn K mg "times_in" s_times_in p_times_in f_times_in fd_times_in) (G__side_kind : GOk P w K mg base n f__side_kind fd__side_kind p__side_kind (spM K 2 (m__side_kind n))) (G_less_in : GOk P w K mg base n f_less_in fd_less_in p_less_in (spM K 3 (m_less_in n))) (G_plus_in : GOk P w K mg base n f_plus_in fd_plus_in p_plus_in (spM K 3 (m_plus_in n))) (G_times_in : GOk P w K mg base n f_times_in fd_times_in p_times_in (spM K 3 (m_times_in n))) : GOk P w K mg base (n + 1) f_less_in fd_less_in p_less_in (spM K 3 (m_less_in (n + 1))) :=
  mkM D_less_in.F sc_less_in rfl rfl fun cdv A outer s H E ng hr => ⟨_, (pss_cons (ps_if (pt_cmpR (r := rEqA K) (op_eqA hr) (pe_ix (r := rIx K) ix_seq (pv 0) pe_int (fun _ _ => rfl)) pe_str (nomark _)) (pss_one (ps_ret (pe_tup pa_nil))) pss_nil)
    (pss_cons (ps_if (pt_cmpR (r := rEqA K) (op_eqA hr) (pe_ix (r := rIx K) ix_seq (pv 0) pe_int (fun _ _ => rfl)) pe_str (nomark _)) (pss_one (ps_ret (pe_tup (pa_cons pe_str (pa_cons (pe_callG G_less_in ng hr (by rfl) D_less_in.m D_less_in.F.kp D_less_in.b .nil (pa_cons (pe_ix (r := rIx K) ix_seq (pv 0) pe_int (fun _ _ => rfl)) (pa_cons (pe_ix (r := rIx K) ix_seq (pv 1) pe_int (fun _ _ => rfl)) (pa_cons (pe_ix (r := rIx K) ix_seq (pv 2) pe_int (fun _ _ => rfl)) pa_nil)))) (pa_cons (pe_callG G_less_in ng hr (by rfl) D_less_in.m D_less_in.F.kp D_less_in.b .nil (pa_cons (pe_ix (r := rIx K) ix_seq (pv 0) pe_int (fun _ _ => rfl)) (pa_cons (pe_ix (r := rIx K) ix_seq (pv 1) pe_int (fun _ _ => rfl)) (pa_cons (pe_ix (r := rIx K) ix_seq (pv 2) pe_int (fun _ _ => rfl)) pa_nil)))) pa_nil)))))) pss_nil)
    (pss_cons (ps_if (pt_cmpR (r := rEqA K) (op_eqA hr) (pe_ix (r := rIx K) ix_seq (pv 0) pe_int (fun _ _ => rfl)) pe_str (nomark _)) (pss_cons (ps_if (pt_cmpR (r := rNeA K) (op_neA hr) (pe_ix (r := rIx K) ix_seq (pv 1) pe_int (fun _ _ => rfl)) (pe_ix (r := rIx K) ix_seq (pv 2) pe_int (fun _ _ => rfl)) (nomark _)) (pss_one (ps_ret (pe_tup (pa_cons pe_str (pa_cons (pv 1) pa_nil))))) pss_nil)
    (pss_one (ps_ret (pe_tup (pa_cons pe_str (pa_cons (pe_tup (pa_cons (pe_ix (r := rIx K) ix_seq (pv 1) pe_int (fun _ _ => rfl)) (pa_cons (pe_callG G_less_in ng hr (by rfl) D_less_in.m D_less_in.F.kp D_less_in.b .nil (pa_cons (pe_callG G__side_kind ng hr (by rfl) D__side_kind.m D__side_kind.F.kp D__side_kind.b .nil (pa_cons (pv 0) (pa_cons (pv 1) pa_nil))) (pa_cons (pe_ix (r := rIx K) ix_seq (pv 1) pe_int (fun _ _ => rfl)) (pa_cons (pe_ix (r := rIx K) ix_seq (pv 2) pe_int (fun _ _ => rfl)) pa_nil)))) pa_nil))) pa_nil)))))) pss_nil)
    (pss_one (ps_ret (pe_callG G_plus_in ng hr (by rfl) D_plus_in.m D_plus_in.F.kp D_plus_in.b .nil (pa_cons (pv 0) (pa_cons (pv 1) (pa_cons (pe_callG G_times_in ng hr (by rfl) D_times_in.m D_times_in.F.kp D_times_in.b .nil (pa_cons (pv 0) (pa_cons (pe_un un_neg pe_int) (pa_cons (pv 2) pa_nil)))) pa_nil))))))))),
  (sv_seq (sv_if (tv_test (ev_op r2_eq (ev_op r2_ix (ev_var 0) ev_int) ev_str)) (sv_ret (ev_tup av_nil)) sv_next)
    (sv_seq (sv_if (tv_test (ev_op r2_eq (ev_op r2_ix (ev_var 0) ev_int) ev_str)) (sv_ret (ev_tup (av_cons ev_str (av_cons (ev_call (av_cons (ev_op r2_ix (ev_var 0) ev_int) (av_cons (ev_op r2_ix (ev_var 1) ev_int) (av_cons (ev_op r2_ix (ev_var 2) ev_int) av_nil)))) (av_cons (ev_call (av_cons (ev_op r2_ix (ev_var 0) ev_int) (av_cons (ev_op r2_ix (ev_var 1) ev_int) (av_cons (ev_op r2_ix (ev_var 2) ev_int) av_nil)))) av_nil))))) sv_next)
    (sv_seq (sv_if (tv_test (ev_op r2_eq (ev_op r2_ix (ev_var 0) ev_int) ev_str)) (sv_seq (sv_if (tv_test (ev_op r2_ne (ev_op r2_ix (ev_var 1) ev_int) (ev_op r2_ix (ev_var 2) ev_int))) (sv_ret (ev_tup (av_cons ev_str (av_cons (ev_var 1) av_nil)))) sv_next)
    (sv_ret (ev_tup (av_cons ev_str (av_cons (ev_tup (av_cons (ev_op r2_ix (ev_var 1) ev_int) (av_cons (ev_call (av_cons (ev_call (av_cons (ev_var 0) (av_cons (ev_var 1) av_nil))) (av_cons (ev_op r2_ix (ev_var 1) ev_int) (av_cons (ev_op r2_ix (ev_var 2) ev_int) av_nil)))) av_nil))) av_nil))))) sv_next)
    (sv_ret (ev_call (av_cons (ev_var 0) (av_cons (ev_var 1) (av_cons (ev_call (av_cons (ev_var 0) (av_cons (ev_un r1_neg ev_int) (av_cons (ev_var 2) av_nil)))) av_nil))))))))⟩
theorem ok_joined_in {n : Nat} (B : B0 mg) {f__joined_sides : Addr} {fd__joined_sides : FuncData} (D__joined_sides : Dfn K mg "_joined_sides" s__joined_sides p__joined_sides f__joined_sides fd__joined_sides) {f_joined_in : Addr} {fd_joined_in : FuncData} (D_joined_in : Dfn K mg "joined_in" s_joined_in p_joined_in f_joined_in fd_joined_in) {f_plus_in : Addr} {fd_plus_in : FuncData} (D_plus_in : Dfn K mg "plus_in" s_plus_in p_plus_in f_plus_in fd_plus_in) (G__joined_sides : GOk P w K mg base n f__joined_sides fd__joined_sides p__joined_sides (spM K 4 (m__joined_sides n))) (G_joined_in : GOk P w K mg base n f_joined_in fd_joined_in p_joined_in (spM K 4 (m_joined_in n))) (G_plus_in : GOk P w K mg base n f_plus_in fd_plus_in p_plus_in (spM K 3 (m_plus_in n))) : GOk P w K mg base (n + 1) f_joined_in fd_joined_in p_joined_in (spM K 4 (m_joined_in (n + 1))) :=
  mkM D_joined_in.F sc_joined_in rfl rfl fun cdv A outer s H E ng hr => ⟨_, (pss_cons (ps_if (pt_cmpR (r := rEqA K) (op_eqA hr) (pe_ix (r := rIx K) ix_seq (pv 0) pe_int (fun _ _ => rfl)) pe_str (nomark _)) (pss_one (ps_ret (pe_tup pa_nil))) pss_nil)
    (pss_cons (ps_if (pt_cmpR (r := rEqA K) (op_eqA hr) (pe_ix (r := rIx K) ix_seq (pv 0) pe_int (fun _ _ => rfl)) pe_str (nomark _)) (pss_cons (ps_set (i := 4) sc_joined_in.nd rfl (.inl rfl) (pe_callG G_joined_in ng hr (by rfl) D_joined_in.m D_joined_in.F.kp D_joined_in.b .nil (pa_cons (pe_ix (r := rIx K) ix_seq (pv 0) pe_int (fun _ _ => rfl)) (pa_cons (pe_ix (r := rIx K) ix_seq (pv 1) pe_int (fun _ _ => rfl)) (pa_cons (pe_ix (r := rIx K) ix_seq (pv 2) pe_int (fun _ _ => rfl)) (pa_cons (pe_ix (r := rIx K) ix_seq (pv 3) pe_int (fun _ _ => rfl)) pa_nil))))))
    (pss_one (ps_ret (pe_tup (pa_cons pe_str (pa_cons (pv 4) (pa_cons (pe_callG G_joined_in ng hr (by rfl) D_joined_in.m D_joined_in.F.kp D_joined_in.b .nil (pa_cons (pe_ix (r := rIx K) ix_seq (pv 0) pe_int (fun _ _ => rfl)) (pa_cons (pe_ix (r := rIx K) ix_seq (pv 1) pe_int (fun _ _ => rfl)) (pa_cons (pe_ix (r := rIx K) ix_seq (pv 2) pe_int (fun _ _ => rfl)) (pa_cons (pe_ix (r := rIx K) ix_seq (pv 3) pe_int (fun _ _ => rfl)) pa_nil))))) pa_nil))))))) pss_nil)
    (pss_cons (ps_if (pt_cmpR (r := rEqA K) (op_eqA hr) (pe_ix (r := rIx K) ix_seq (pv 0) pe_int (fun _ _ => rfl)) pe_str (nomark _)) (pss_one (ps_ret (pe_callG G__joined_sides ng hr (by rfl) D__joined_sides.m D__joined_sides.F.kp D__joined_sides.b .nil (pa_cons (pv 0) (pa_cons (pv 1) (pa_cons (pv 2) (pa_cons (pv 3) pa_nil))))))) pss_nil)
    (pss_one (ps_ret (pe_callG G_plus_in ng hr (by rfl) D_plus_in.m D_plus_in.F.kp D_plus_in.b .nil (pa_cons (pv 0) (pa_cons (pv 2) (pa_cons (pv 3) pa_nil))))))))),
  (sv_seq (sv_if (tv_test (ev_op r2_eq (ev_op r2_ix (ev_var 0) ev_int) ev_str)) (sv_ret (ev_tup av_nil)) sv_next)
    (sv_seq (sv_if (tv_test (ev_op r2_eq (ev_op r2_ix (ev_var 0) ev_int) ev_str)) (sv_seq (sv_asg (ev_call (av_cons (ev_op r2_ix (ev_var 0) ev_int) (av_cons (ev_op r2_ix (ev_var 1) ev_int) (av_cons (ev_op r2_ix (ev_var 2) ev_int) (av_cons (ev_op r2_ix (ev_var 3) ev_int) av_nil))))) (gv_name (vs := [4]) (by decide)))
    (sv_ret (ev_tup (av_cons ev_str (av_cons (ev_var 4) (av_cons (ev_call (av_cons (ev_op r2_ix (ev_var 0) ev_int) (av_cons (ev_op r2_ix (ev_var 1) ev_int) (av_cons (ev_op r2_ix (ev_var 2) ev_int) (av_cons (ev_op r2_ix (ev_var 3) ev_int) av_nil))))) av_nil)))))) sv_next)
    (sv_seq (sv_if (tv_test (ev_op r2_eq (ev_op r2_ix (ev_var 0) ev_int) ev_str)) (sv_ret (ev_call (av_cons (ev_var 0) (av_cons (ev_var 1) (av_cons (ev_var 2) (av_cons (ev_var 3) av_nil)))))) sv_next)
    (sv_ret (ev_call (av_cons (ev_var 0) (av_cons (ev_var 2) (av_cons (ev_var 3) av_nil))))))))⟩
theorem ok__joined_sides {n : Nat} (B : B0 mg) {f__joined_sides : Addr} {fd__joined_sides : FuncData} (D__joined_sides : Dfn K mg "_joined_sides" s__joined_sides p__joined_sides f__joined_sides fd__joined_sides) {f__side_kind : Addr} {fd__side_kind : FuncData} (D__side_kind : Dfn K mg "_side_kind" s__side_kind p__side_kind f__side_kind fd__side_kind) {f_joined_in : Addr} {fd_joined_in : FuncData} (D_joined_in : Dfn K mg "joined_in" s_joined_in p_joined_in f_joined_in fd_joined_in) {f_led_in : Addr} {fd_led_in : FuncData} (D_led_in : Dfn K mg "led_in" s_led_in p_led_in f_led_in fd_led_in) (G__side_kind : GOk P w K mg base n f__side_kind fd__side_kind p__side_kind (spM K 2 (m__side_kind n))) (G_joined_in : GOk P w K mg base n f_joined_in fd_joined_in p_joined_in (spM K 4 (m_joined_in n))) (G_led_in : GOk P w K mg base n f_led_in fd_led_in p_led_in (spM K 3 (m_led_in n))) : GOk P w K mg base (n + 1) f__joined_sides fd__joined_sides p__joined_sides (spM K 4 (m__joined_sides (n + 1))) :=
  mkM D__joined_sides.F sc__joined_sides rfl rfl fun cdv A outer s H E ng hr => ⟨_, (pss_cons (ps_if (pt_cmpR (r := rEqA K) (op_eqA hr) (pe_ix (r := rIx K) ix_seq (pv 3) pe_int (fun _ _ => rfl)) pe_str (nomark _)) (pss_one (ps_ret (pv 3))) pss_nil)
    (pss_cons (ps_if (pt_cmpR (r := rEqA K) (op_eqA hr) (pe_ix (r := rIx K) ix_seq (pv 2) pe_int (fun _ _ => rfl)) pe_str (nomark _)) (pss_one (ps_ret (pe_tup (pa_cons pe_str (pa_cons (pe_callG G_led_in ng hr (by rfl) D_led_in.m D_led_in.F.kp D_led_in.b .nil (pa_cons (pv 0) (pa_cons (pe_ix (r := rIx K) ix_seq (pv 2) pe_int (fun _ _ => rfl)) (pa_cons (pv 3) pa_nil)))) pa_nil))))) pss_nil)
    (pss_cons (ps_set (i := 4) sc__joined_sides.nd rfl (.inl rfl) (pe_callG G_joined_in ng hr (by rfl) D_joined_in.m D_joined_in.F.kp D_joined_in.b .nil (pa_cons (pe_callG G__side_kind ng hr (by rfl) D__side_kind.m D__side_kind.F.kp D__side_kind.b .nil (pa_cons (pv 0) (pa_cons (pv 1) pa_nil))) (pa_cons (pe_ix (r := rIx K) ix_seq (pv 1) pe_int (fun _ _ => rfl)) (pa_cons (pe_ix (r := rIx K) ix_seq (pe_ix (r := rIx K) ix_seq (pv 2) pe_int (fun _ _ => rfl)) pe_int (fun _ _ => rfl)) (pa_cons (pe_ix (r := rIx K) ix_seq (pe_ix (r := rIx K) ix_seq (pv 3) pe_int (fun _ _ => rfl)) pe_int (fun _ _ => rfl)) pa_nil))))))
    (pss_one (ps_ret (pe_tup (pa_cons pe_str (pa_cons (pe_tup (pa_cons (pe_ix (r := rIx K) ix_seq (pv 1) pe_int (fun _ _ => rfl)) (pa_cons (pv 4) pa_nil))) pa_nil)))))))),
  (sv_seq (sv_if (tv_test (ev_op r2_eq (ev_op r2_ix (ev_var 3) ev_int) ev_str)) (sv_ret (ev_var 3)) sv_next)
    (sv_seq (sv_if (tv_test (ev_op r2_eq (ev_op r2_ix (ev_var 2) ev_int) ev_str)) (sv_ret (ev_tup (av_cons ev_str (av_cons (ev_call (av_cons (ev_var 0) (av_cons (ev_op r2_ix (ev_var 2) ev_int) (av_cons (ev_var 3) av_nil)))) av_nil)))) sv_next)
    (sv_seq (sv_asg (ev_call (av_cons (ev_call (av_cons (ev_var 0) (av_cons (ev_var 1) av_nil))) (av_cons (ev_op r2_ix (ev_var 1) ev_int) (av_cons (ev_op r2_ix (ev_op r2_ix (ev_var 2) ev_int) ev_int) (av_cons (ev_op r2_ix (ev_op r2_ix (ev_var 3) ev_int) ev_int) av_nil))))) (gv_name (vs := [4]) (by decide)))
    (sv_ret (ev_tup (av_cons ev_str (av_cons (ev_tup (av_cons (ev_op r2_ix (ev_var 1) ev_int) (av_cons (ev_var 4) av_nil))) av_nil)))))))⟩
theorem ok_back_in {n : Nat} (B : B0 mg) {f_back_in : Addr} {fd_back_in : FuncData} (D_back_in : Dfn K mg "back_in" s_back_in p_back_in f_back_in fd_back_in) {f_led_in : Addr} {fd_led_in : FuncData} (D_led_in : Dfn K mg "led_in" s_led_in p_led_in f_led_in fd_led_in) {f_less_in : Addr} {fd_less_in : FuncData} (D_less_in : Dfn K mg "less_in" s_less_in p_less_in f_less_in fd_less_in) (G_led_in : GOk P w K mg base n f_led_in fd_led_in p_led_in (spM K 3 (m_led_in n))) (G_less_in : GOk P w K mg base n f_less_in fd_less_in p_less_in (spM K 3 (m_less_in n))) : GOk P w K mg base (n + 1) f_back_in fd_back_in p_back_in (spM K 3 (m_back_in (n + 1))) :=
  mkM D_back_in.F sc_back_in rfl rfl fun cdv A outer s H E ng hr => ⟨_, (pss_one (ps_ret (pe_callG G_less_in ng hr (by rfl) D_less_in.m D_less_in.F.kp D_less_in.b .nil (pa_cons (pv 0) (pa_cons (pv 1) (pa_cons (pe_callG G_led_in ng hr (by rfl) D_led_in.m D_led_in.F.kp D_led_in.b .nil (pa_cons (pv 0) (pa_cons (pv 1) (pa_cons (pv 2) pa_nil)))) pa_nil)))))),
  (sv_ret (ev_call (av_cons (ev_var 0) (av_cons (ev_var 1) (av_cons (ev_call (av_cons (ev_var 0) (av_cons (ev_var 1) (av_cons (ev_var 2) av_nil)))) av_nil)))))⟩
theorem ok_is_whole {n : Nat} (B : B0 mg) {f_is_whole : Addr} {fd_is_whole : FuncData} (D_is_whole : Dfn K mg "is_whole" s_is_whole p_is_whole f_is_whole fd_is_whole) : GOk P w K mg base (n + 1) f_is_whole fd_is_whole p_is_whole (spM K 1 (m_is_whole (n + 1))) :=
  mkM D_is_whole.F sc_is_whole rfl rfl fun cdv A outer s H E ng hr => ⟨_, (pss_one (ps_ret (pe_and (pe_callB (r := rIsi K) call_isi (by rfl) B.isinstance PyProof.Rows.boot_isinstance (pa_cons (pv 0) (pa_cons (pe_bltn (v := .ty "int") (by rfl) B.int (by decide +kernel) rfl) pa_nil))) (pe_one (pe_not (pe_callB (r := rIsi K) call_isi (by rfl) B.isinstance PyProof.Rows.boot_isinstance (pa_cons (pv 0) (pa_cons (pe_bltn (v := .ty "bool") (by rfl) B.bool (by decide +kernel) rfl) pa_nil)))))))),
  (sv_ret (ev_and (ev_cb rn_isi (av_cons (ev_var 0) (av_cons ev_ty av_nil))) (ev_not (ev_cb rn_isi (av_cons (ev_var 0) (av_cons ev_ty av_nil))))))⟩
theorem ok__begins {n : Nat} (B : B0 mg) {f__begins : Addr} {fd__begins : FuncData} (D__begins : Dfn K mg "_begins" s__begins p__begins f__begins fd__begins) : GOk P w K mg base (n + 1) f__begins fd__begins p__begins (spM K 3 (m__begins (n + 1))) :=
  mkM D__begins.F sc__begins rfl rfl fun cdv A outer s H E ng hr => ⟨_, (pss_one (ps_ret (pe_and (pe_cmpR (r := rEqA K) (op_eqA hr) (pe_callB (r := M.rLen K) c_lenA (by rfl) B.len PySem.boot_len (pa_cons (pv 0) pa_nil)) (pv 2) (nomark _)) (pe_and (pe_callB (r := rIsi K) call_isi (by rfl) B.isinstance PyProof.Rows.boot_isinstance (pa_cons (pe_ix (r := rIx K) ix_seq (pv 0) pe_int (fun _ _ => rfl)) (pa_cons (pe_bltn (v := .ty "str") (by rfl) B.str (by decide +kernel) rfl) pa_nil))) (pe_one (pe_cmpR (r := rEqA K) (op_eqA hr) (pe_ix (r := rIx K) ix_seq (pv 0) pe_int (fun _ _ => rfl)) (pv 1) (nomark _))))))),
  (sv_ret (ev_and (ev_op r2_eq (ev_cb rn_len (av_cons (ev_var 0) av_nil)) (ev_var 2)) (ev_and (ev_cb rn_isi (av_cons (ev_op r2_ix (ev_var 0) ev_int) (av_cons ev_ty av_nil))) (ev_op r2_eq (ev_op r2_ix (ev_var 0) ev_int) (ev_var 1)))))⟩
theorem ok_is_of {n : Nat} (B : B0 mg) {f__begins : Addr} {fd__begins : FuncData} (D__begins : Dfn K mg "_begins" s__begins p__begins f__begins fd__begins) {f__is_bag : Addr} {fd__is_bag : FuncData} (D__is_bag : Dfn K mg "_is_bag" s__is_bag p__is_bag f__is_bag fd__is_bag) {f_is_of : Addr} {fd_is_of : FuncData} (D_is_of : Dfn K mg "is_of" s_is_of p_is_of f_is_of fd_is_of) {f_is_whole : Addr} {fd_is_whole : FuncData} (D_is_whole : Dfn K mg "is_whole" s_is_whole p_is_whole f_is_whole fd_is_whole) (G__begins : GOk P w K mg base n f__begins fd__begins p__begins (spM K 3 (m__begins n))) (G__is_bag : GOk P w K mg base n f__is_bag fd__is_bag p__is_bag (spM K 2 (m__is_bag n))) (G_is_of : GOk P w K mg base n f_is_of fd_is_of p_is_of (spM K 2 (m_is_of n))) (G_is_whole : GOk P w K mg base n f_is_whole fd_is_whole p_is_whole (spM K 1 (m_is_whole n))) : GOk P w K mg base (n + 1) f_is_of fd_is_of p_is_of (spM K 2 (m_is_of (n + 1))) :=
  mkM D_is_of.F sc_is_of rfl rfl fun cdv A outer s H E ng hr => ⟨_, (pss_cons (ps_if (pt_cmpR (r := rEqA K) (op_eqA hr) (pe_ix (r := rIx K) ix_seq (pv 0) pe_int (fun _ _ => rfl)) pe_str (nomark _)) (pss_one (ps_ret (pe_callG G_is_whole ng hr (by rfl) D_is_whole.m D_is_whole.F.kp D_is_whole.b .nil (pa_cons (pv 1) pa_nil)))) pss_nil)
    (pss_cons (ps_if (pt_not (pt_val (pe_callB (r := rIsi K) call_isi (by rfl) B.isinstance PyProof.Rows.boot_isinstance (pa_cons (pv 1) (pa_cons (pe_bltn (v := .ty "tuple") (by rfl) B.tuple (by decide +kernel) rfl) pa_nil))))) (pss_one (ps_ret pe_bl)) pss_nil)
    (pss_cons (ps_if (pt_cmpR (r := rEqA K) (op_eqA hr) (pe_ix (r := rIx K) ix_seq (pv 0) pe_int (fun _ _ => rfl)) pe_str (nomark _)) (pss_one (ps_ret (pe_cmpR (r := rEqA K) (op_eqA hr) (pe_callB (r := M.rLen K) c_lenA (by rfl) B.len PySem.boot_len (pa_cons (pv 1) pa_nil)) pe_int (nomark _)))) pss_nil)
    (pss_cons (ps_if (pt_cmpR (r := rEqA K) (op_eqA hr) (pe_ix (r := rIx K) ix_seq (pv 0) pe_int (fun _ _ => rfl)) pe_str (nomark _)) (pss_one (ps_ret (pe_callG G__is_bag ng hr (by rfl) D__is_bag.m D__is_bag.F.kp D__is_bag.b .nil (pa_cons (pe_ix (r := rIx K) ix_seq (pv 0) pe_int (fun _ _ => rfl)) (pa_cons (pv 1) pa_nil))))) pss_nil)
    (pss_cons (ps_if (pt_cmpR (r := rEqA K) (op_eqA hr) (pe_ix (r := rIx K) ix_seq (pv 0) pe_int (fun _ _ => rfl)) pe_str (nomark _)) (pss_one (ps_ret (pe_and (pe_callG G__begins ng hr (by rfl) D__begins.m D__begins.F.kp D__begins.b .nil (pa_cons (pv 1) (pa_cons pe_str (pa_cons pe_int pa_nil)))) (pe_and (pe_callG G_is_of ng hr (by rfl) D_is_of.m D_is_of.F.kp D_is_of.b .nil (pa_cons (pe_ix (r := rIx K) ix_seq (pv 0) pe_int (fun _ _ => rfl)) (pa_cons (pe_ix (r := rIx K) ix_seq (pv 1) pe_int (fun _ _ => rfl)) pa_nil))) (pe_one (pe_callG G_is_of ng hr (by rfl) D_is_of.m D_is_of.F.kp D_is_of.b .nil (pa_cons (pe_ix (r := rIx K) ix_seq (pv 0) pe_int (fun _ _ => rfl)) (pa_cons (pe_ix (r := rIx K) ix_seq (pv 1) pe_int (fun _ _ => rfl)) pa_nil)))))))) pss_nil)
    (pss_cons (ps_if (pt_val (pe_callG G__begins ng hr (by rfl) D__begins.m D__begins.F.kp D__begins.b .nil (pa_cons (pv 1) (pa_cons pe_str (pa_cons pe_int pa_nil))))) (pss_one (ps_ret (pe_callG G_is_of ng hr (by rfl) D_is_of.m D_is_of.F.kp D_is_of.b .nil (pa_cons (pe_ix (r := rIx K) ix_seq (pv 0) pe_int (fun _ _ => rfl)) (pa_cons (pe_ix (r := rIx K) ix_seq (pv 1) pe_int (fun _ _ => rfl)) pa_nil))))) pss_nil)
    (pss_one (ps_ret (pe_and (pe_callG G__begins ng hr (by rfl) D__begins.m D__begins.F.kp D__begins.b .nil (pa_cons (pv 1) (pa_cons pe_str (pa_cons pe_int pa_nil)))) (pe_one (pe_callG G_is_of ng hr (by rfl) D_is_of.m D_is_of.F.kp D_is_of.b .nil (pa_cons (pe_ix (r := rIx K) ix_seq (pv 0) pe_int (fun _ _ => rfl)) (pa_cons (pe_ix (r := rIx K) ix_seq (pv 1) pe_int (fun _ _ => rfl)) pa_nil))))))))))))),
  (sv_seq (sv_if (tv_test (ev_op r2_eq (ev_op r2_ix (ev_var 0) ev_int) ev_str)) (sv_ret (ev_call (av_cons (ev_var 1) av_nil))) sv_next)
    (sv_seq (sv_if (tv_not (tv_val (ev_cb rn_isi (av_cons (ev_var 1) (av_cons ev_ty av_nil))))) (sv_ret ev_bl) sv_next)
    (sv_seq (sv_if (tv_test (ev_op r2_eq (ev_op r2_ix (ev_var 0) ev_int) ev_str)) (sv_ret (ev_op r2_eq (ev_cb rn_len (av_cons (ev_var 1) av_nil)) ev_int)) sv_next)
    (sv_seq (sv_if (tv_test (ev_op r2_eq (ev_op r2_ix (ev_var 0) ev_int) ev_str)) (sv_ret (ev_call (av_cons (ev_op r2_ix (ev_var 0) ev_int) (av_cons (ev_var 1) av_nil)))) sv_next)
    (sv_seq (sv_if (tv_test (ev_op r2_eq (ev_op r2_ix (ev_var 0) ev_int) ev_str)) (sv_ret (ev_and (ev_call (av_cons (ev_var 1) (av_cons ev_str (av_cons ev_int av_nil)))) (ev_and (ev_call (av_cons (ev_op r2_ix (ev_var 0) ev_int) (av_cons (ev_op r2_ix (ev_var 1) ev_int) av_nil))) (ev_call (av_cons (ev_op r2_ix (ev_var 0) ev_int) (av_cons (ev_op r2_ix (ev_var 1) ev_int) av_nil)))))) sv_next)
    (sv_seq (sv_if (tv_val (ev_call (av_cons (ev_var 1) (av_cons ev_str (av_cons ev_int av_nil))))) (sv_ret (ev_call (av_cons (ev_op r2_ix (ev_var 0) ev_int) (av_cons (ev_op r2_ix (ev_var 1) ev_int) av_nil)))) sv_next)
    (sv_ret (ev_and (ev_call (av_cons (ev_var 1) (av_cons ev_str (av_cons ev_int av_nil)))) (ev_call (av_cons (ev_op r2_ix (ev_var 0) ev_int) (av_cons (ev_op r2_ix (ev_var 1) ev_int) av_nil)))))))))))⟩
end
end N25
namespace N25
open PySem PySem.Spec PyProof.Rows L2 Z M
section
variable {P : Program} {w : World} {K : PySem.W.Frag} {mg : Str → Option Value} {base : Heap}
theorem ok__is_bag {n : Nat} (B : B0 mg) {f__is_bag : Addr} {fd__is_bag : FuncData} (D__is_bag : Dfn K mg "_is_bag" s__is_bag p__is_bag f__is_bag fd__is_bag) {f__is_counted : Addr} {fd__is_counted : FuncData} (D__is_counted : Dfn K mg "_is_counted" s__is_counted p__is_counted f__is_counted fd__is_counted) (G__is_counted : GOk P w K mg base n f__is_counted fd__is_counted p__is_counted (spM K 2 (m__is_counted n))) : GOk P w K mg base (n + 1) f__is_bag fd__is_bag p__is_bag (spM K 2 (m__is_bag (n + 1))) :=
  mkM D__is_bag.F sc__is_bag rfl rfl fun cdv A outer s H E ng hr => ⟨_, (pss_cons (ps_for PassesOwn.never rfl (pi_any (pv 1)) (pg_name (i := 2) sc__is_bag.nd rfl (.inl rfl)) (pss_one (ps_if (PW.pt (pw_or (pt_not (pt_val (pe_callG G__is_counted ng hr (by rfl) D__is_counted.m D__is_counted.F.kp D__is_counted.b .nil (pa_cons (pv 0) (pa_cons (pv 2) pa_nil))))) (pw_or1 (pt_cmpR (r := rEqA K) (op_eqA hr) (pe_ix (r := rIx K) ix_seq (pv 2) pe_int (fun _ _ => rfl)) pe_int (nomark _))))) (pss_one (ps_ret pe_bl)) pss_nil)))
    (pss_cons (ps_for PassesOwn.never rfl (RZ.pi_zipA (by rfl) B.zip (pa_cons (pv 1) (pa_cons (pe_slice (r := rSlAny K) sl_any (pv 1) (po_some pe_int) po_none) pa_nil))) (pg_tup (by rfl) (pgs_cons (pg_name (i := 3) sc__is_bag.nd rfl (.inl rfl)) (pgs_cons (pg_name (i := 4) sc__is_bag.nd rfl (.inl rfl)) pgs_nil))) (pss_one (ps_if (pt_not (pt_cmpR (r := rLt K) (op_ltA hr) (pe_ix (r := rIx K) ix_seq (pv 3) pe_int (fun _ _ => rfl)) (pe_ix (r := rIx K) ix_seq (pv 4) pe_int (fun _ _ => rfl)) (nomark _))) (pss_one (ps_ret pe_bl)) pss_nil)))
    (pss_one (ps_ret pe_bl)))),
  (sv_seq (sv_for (iv_any (ev_var 1)) (gv_name (vs := [2]) (by decide)) (sv_if (tv_or (tv_not (tv_val (ev_call (av_cons (ev_var 0) (av_cons (ev_var 2) av_nil))))) (tv_test (ev_op r2_eq (ev_op r2_ix (ev_var 2) ev_int) ev_int))) (sv_ret ev_bl) sv_next))
    (sv_seq (sv_for (iv_zip (av_cons (ev_var 1) (av_cons (ev_sl rs_sl (ev_var 1) (ov_some ev_int) ov_none) av_nil))) (gv_tup (gsv_cons (gv_name (vs := [3, 4]) (by decide)) (gsv_cons (gv_name (vs := [3, 4]) (by decide)) gsv_nil))) (sv_if (tv_not (tv_test (ev_op r2_lt (ev_op r2_ix (ev_var 3) ev_int) (ev_op r2_ix (ev_var 4) ev_int)))) (sv_ret ev_bl) sv_next))
    (sv_ret ev_bl)))⟩
theorem ok__is_counted {n : Nat} (B : B0 mg) {f__is_counted : Addr} {fd__is_counted : FuncData} (D__is_counted : Dfn K mg "_is_counted" s__is_counted p__is_counted f__is_counted fd__is_counted) {f_is_of : Addr} {fd_is_of : FuncData} (D_is_of : Dfn K mg "is_of" s_is_of p_is_of f_is_of fd_is_of) {f_is_whole : Addr} {fd_is_whole : FuncData} (D_is_whole : Dfn K mg "is_whole" s_is_whole p_is_whole f_is_whole fd_is_whole) (G_is_of : GOk P w K mg base n f_is_of fd_is_of p_is_of (spM K 2 (m_is_of n))) (G_is_whole : GOk P w K mg base n f_is_whole fd_is_whole p_is_whole (spM K 1 (m_is_whole n))) : GOk P w K mg base (n + 1) f__is_counted fd__is_counted p__is_counted (spM K 2 (m__is_counted (n + 1))) :=
  mkM D__is_counted.F sc__is_counted rfl rfl fun cdv A outer s H E ng hr => ⟨_, (pss_cons (ps_if (PW.pt (pw_or (pt_not (pt_val (pe_callB (r := rIsi K) call_isi (by rfl) B.isinstance PyProof.Rows.boot_isinstance (pa_cons (pv 1) (pa_cons (pe_bltn (v := .ty "tuple") (by rfl) B.tuple (by decide +kernel) rfl) pa_nil))))) (pw_or1 (pt_cmpR (r := rNeA K) (op_neA hr) (pe_callB (r := M.rLen K) c_lenA (by rfl) B.len PySem.boot_len (pa_cons (pv 1) pa_nil)) pe_int (nomark _))))) (pss_one (ps_ret pe_bl)) pss_nil)
    (pss_one (ps_ret (pe_and (pe_callG G_is_of ng hr (by rfl) D_is_of.m D_is_of.F.kp D_is_of.b .nil (pa_cons (pv 0) (pa_cons (pe_ix (r := rIx K) ix_seq (pv 1) pe_int (fun _ _ => rfl)) pa_nil))) (pe_one (pe_callG G_is_whole ng hr (by rfl) D_is_whole.m D_is_whole.F.kp D_is_whole.b .nil (pa_cons (pe_ix (r := rIx K) ix_seq (pv 1) pe_int (fun _ _ => rfl)) pa_nil))))))),
  (sv_seq (sv_if (tv_or (tv_not (tv_val (ev_cb rn_isi (av_cons (ev_var 1) (av_cons ev_ty av_nil))))) (tv_test (ev_op r2_ne (ev_cb rn_len (av_cons (ev_var 1) av_nil)) ev_int))) (sv_ret ev_bl) sv_next)
    (sv_ret (ev_and (ev_call (av_cons (ev_var 0) (av_cons (ev_op r2_ix (ev_var 1) ev_int) av_nil))) (ev_call (av_cons (ev_op r2_ix (ev_var 1) ev_int) av_nil)))))⟩
theorem ok_check_value {n : Nat} (B : B0 mg) {f_check_value : Addr} {fd_check_value : FuncData} (D_check_value : Dfn K mg "check_value" s_check_value p_check_value f_check_value fd_check_value) {f_is_of : Addr} {fd_is_of : FuncData} (D_is_of : Dfn K mg "is_of" s_is_of p_is_of f_is_of fd_is_of) (G_is_of : GOk P w K mg base n f_is_of fd_is_of p_is_of (spM K 2 (m_is_of n))) : GOk P w K mg base (n + 1) f_check_value fd_check_value p_check_value (spM K 2 (m_check_value (n + 1))) :=
  mkM D_check_value.F sc_check_value rfl rfl fun cdv A outer s H E ng hr => ⟨_, (pss_one (ps_if (pt_not (pt_val (pe_callG G_is_of ng hr (by rfl) D_is_of.m D_is_of.F.kp D_is_of.b .nil (pa_cons (pv 0) (pa_cons (pv 1) pa_nil))))) (pss_one ps_never) pss_nil)),
  (sv_if (tv_not (tv_val (ev_call (av_cons (ev_var 0) (av_cons (ev_var 1) av_nil))))) sv_never sv_next)⟩
theorem ok__check_data_kind {n : Nat} (B : B0 mg) {f__check_data_kind : Addr} {fd__check_data_kind : FuncData} (D__check_data_kind : Dfn K mg "_check_data_kind" s__check_data_kind p__check_data_kind f__check_data_kind fd__check_data_kind) {f_is_data_kind : Addr} {fd_is_data_kind : FuncData} (D_is_data_kind : Dfn K mg "is_data_kind" s_is_data_kind p_is_data_kind f_is_data_kind fd_is_data_kind) (G_is_data_kind : GOk P w K mg base n f_is_data_kind fd_is_data_kind p_is_data_kind (spM K 1 (m_is_data_kind n))) : GOk P w K mg base (n + 1) f__check_data_kind fd__check_data_kind p__check_data_kind (spM K 1 (m__check_data_kind (n + 1))) :=
  mkM D__check_data_kind.F sc__check_data_kind rfl rfl fun cdv A outer s H E ng hr => ⟨_, (pss_one (ps_if (pt_not (pt_val (pe_callG G_is_data_kind ng hr (by rfl) D_is_data_kind.m D_is_data_kind.F.kp D_is_data_kind.b .nil (pa_cons (pv 0) pa_nil)))) (pss_one ps_never) pss_nil)),
  (sv_if (tv_not (tv_val (ev_call (av_cons (ev_var 0) av_nil)))) sv_never sv_next)⟩
theorem ok__check_all {n : Nat} (B : B0 mg) {f__check_all : Addr} {fd__check_all : FuncData} (D__check_all : Dfn K mg "_check_all" s__check_all p__check_all f__check_all fd__check_all) {f__check_data_kind : Addr} {fd__check_data_kind : FuncData} (D__check_data_kind : Dfn K mg "_check_data_kind" s__check_data_kind p__check_data_kind f__check_data_kind fd__check_data_kind) {f_check_value : Addr} {fd_check_value : FuncData} (D_check_value : Dfn K mg "check_value" s_check_value p_check_value f_check_value fd_check_value) {f_is_of : Addr} {fd_is_of : FuncData} (D_is_of : Dfn K mg "is_of" s_is_of p_is_of f_is_of fd_is_of) {f_kind_of_changes : Addr} {fd_kind_of_changes : FuncData} (D_kind_of_changes : Dfn K mg "kind_of_changes" s_kind_of_changes p_kind_of_changes f_kind_of_changes fd_kind_of_changes) (G__check_data_kind : GOk P w K mg base n f__check_data_kind fd__check_data_kind p__check_data_kind (spM K 1 (m__check_data_kind n))) (G_check_value : GOk P w K mg base n f_check_value fd_check_value p_check_value (spM K 2 (m_check_value n))) (G_is_of : GOk P w K mg base n f_is_of fd_is_of p_is_of (spM K 2 (m_is_of n))) (G_kind_of_changes : GOk P w K mg base n f_kind_of_changes fd_kind_of_changes p_kind_of_changes (spM K 1 (m_kind_of_changes n))) : GOk P w K mg base (n + 1) f__check_all fd__check_all p__check_all (spM K 3 (m__check_all (n + 1))) :=
  mkM D__check_all.F sc__check_all rfl rfl fun cdv A outer s H E ng hr => ⟨_, (pss_cons (ps_expr (pe_callG G__check_data_kind ng hr (by rfl) D__check_data_kind.m D__check_data_kind.F.kp D__check_data_kind.b .nil (pa_cons (pv 0) pa_nil)))
    (pss_cons (ps_for PassesOwn.never rfl (pi_any (pv 1)) (pg_name (i := 3) sc__check_all.nd rfl (.inl rfl)) (pss_one (ps_expr (pe_callG G_check_value ng hr (by rfl) D_check_value.m D_check_value.F.kp D_check_value.b .nil (pa_cons (pv 0) (pa_cons (pv 3) pa_nil))))))
    (pss_one (ps_for PassesOwn.never rfl (pi_any (pv 2)) (pg_name (i := 4) sc__check_all.nd rfl (.inl rfl)) (pss_one (ps_if (pt_not (pt_val (pe_callG G_is_of ng hr (by rfl) D_is_of.m D_is_of.F.kp D_is_of.b .nil (pa_cons (pe_callG G_kind_of_changes ng hr (by rfl) D_kind_of_changes.m D_kind_of_changes.F.kp D_kind_of_changes.b .nil (pa_cons (pv 0) pa_nil)) (pa_cons (pv 4) pa_nil))))) (pss_one ps_never) pss_nil)))))),
  (sv_seq (sv_drop (ev_call (av_cons (ev_var 0) av_nil)))
    (sv_seq (sv_for (iv_any (ev_var 1)) (gv_name (vs := [3]) (by decide)) (sv_drop (ev_call (av_cons (ev_var 0) (av_cons (ev_var 3) av_nil)))))
    (sv_for (iv_any (ev_var 2)) (gv_name (vs := [4]) (by decide)) (sv_if (tv_not (tv_val (ev_call (av_cons (ev_call (av_cons (ev_var 0) av_nil)) (av_cons (ev_var 4) av_nil))))) sv_never sv_next))))⟩
theorem ok_fits {n : Nat} (B : B0 mg) {f__check_all : Addr} {fd__check_all : FuncData} (D__check_all : Dfn K mg "_check_all" s__check_all p__check_all f__check_all fd__check_all) {f_fits : Addr} {fd_fits : FuncData} (D_fits : Dfn K mg "fits" s_fits p_fits f_fits fd_fits) {f_fits_in : Addr} {fd_fits_in : FuncData} (D_fits_in : Dfn K mg "fits_in" s_fits_in p_fits_in f_fits_in fd_fits_in) (G__check_all : GOk P w K mg base n f__check_all fd__check_all p__check_all (spM K 3 (m__check_all n))) (G_fits_in : GOk P w K mg base n f_fits_in fd_fits_in p_fits_in (spM K 3 (m_fits_in n))) : GOk P w K mg base (n + 1) f_fits fd_fits p_fits (spM K 3 (m_fits (n + 1))) :=
  mkM D_fits.F sc_fits rfl rfl fun cdv A outer s H E ng hr => ⟨_, (pss_cons (ps_expr (pe_callG G__check_all ng hr (by rfl) D__check_all.m D__check_all.F.kp D__check_all.b .nil (pa_cons (pv 0) (pa_cons (pe_tup (pa_cons (pv 1) pa_nil)) (pa_cons (pe_tup (pa_cons (pv 2) pa_nil)) pa_nil)))))
    (pss_one (ps_ret (pe_callG G_fits_in ng hr (by rfl) D_fits_in.m D_fits_in.F.kp D_fits_in.b .nil (pa_cons (pv 0) (pa_cons (pv 1) (pa_cons (pv 2) pa_nil))))))),
  (sv_seq (sv_drop (ev_call (av_cons (ev_var 0) (av_cons (ev_tup (av_cons (ev_var 1) av_nil)) (av_cons (ev_tup (av_cons (ev_var 2) av_nil)) av_nil)))))
    (sv_ret (ev_call (av_cons (ev_var 0) (av_cons (ev_var 1) (av_cons (ev_var 2) av_nil))))))⟩
theorem ok_led {n : Nat} (B : B0 mg) {f__check_all : Addr} {fd__check_all : FuncData} (D__check_all : Dfn K mg "_check_all" s__check_all p__check_all f__check_all fd__check_all) {f_led : Addr} {fd_led : FuncData} (D_led : Dfn K mg "led" s_led p_led f_led fd_led) {f_led_in : Addr} {fd_led_in : FuncData} (D_led_in : Dfn K mg "led_in" s_led_in p_led_in f_led_in fd_led_in) (G__check_all : GOk P w K mg base n f__check_all fd__check_all p__check_all (spM K 3 (m__check_all n))) (G_led_in : GOk P w K mg base n f_led_in fd_led_in p_led_in (spM K 3 (m_led_in n))) : GOk P w K mg base (n + 1) f_led fd_led p_led (spM K 3 (m_led (n + 1))) :=
  mkM D_led.F sc_led rfl rfl fun cdv A outer s H E ng hr => ⟨_, (pss_cons (ps_expr (pe_callG G__check_all ng hr (by rfl) D__check_all.m D__check_all.F.kp D__check_all.b .nil (pa_cons (pv 0) (pa_cons (pe_tup (pa_cons (pv 1) pa_nil)) (pa_cons (pe_tup (pa_cons (pv 2) pa_nil)) pa_nil)))))
    (pss_one (ps_ret (pe_callG G_led_in ng hr (by rfl) D_led_in.m D_led_in.F.kp D_led_in.b .nil (pa_cons (pv 0) (pa_cons (pv 1) (pa_cons (pv 2) pa_nil))))))),
  (sv_seq (sv_drop (ev_call (av_cons (ev_var 0) (av_cons (ev_tup (av_cons (ev_var 1) av_nil)) (av_cons (ev_tup (av_cons (ev_var 2) av_nil)) av_nil)))))
    (sv_ret (ev_call (av_cons (ev_var 0) (av_cons (ev_var 1) (av_cons (ev_var 2) av_nil))))))⟩
theorem ok_nothing {n : Nat} (B : B0 mg) {f__check_all : Addr} {fd__check_all : FuncData} (D__check_all : Dfn K mg "_check_all" s__check_all p__check_all f__check_all fd__check_all) {f_less_in : Addr} {fd_less_in : FuncData} (D_less_in : Dfn K mg "less_in" s_less_in p_less_in f_less_in fd_less_in) {f_nothing : Addr} {fd_nothing : FuncData} (D_nothing : Dfn K mg "nothing" s_nothing p_nothing f_nothing fd_nothing) (G__check_all : GOk P w K mg base n f__check_all fd__check_all p__check_all (spM K 3 (m__check_all n))) (G_less_in : GOk P w K mg base n f_less_in fd_less_in p_less_in (spM K 3 (m_less_in n))) : GOk P w K mg base (n + 1) f_nothing fd_nothing p_nothing (spM K 2 (m_nothing (n + 1))) :=
  mkM D_nothing.F sc_nothing rfl rfl fun cdv A outer s H E ng hr => ⟨_, (pss_cons (ps_expr (pe_callG G__check_all ng hr (by rfl) D__check_all.m D__check_all.F.kp D__check_all.b .nil (pa_cons (pv 0) (pa_cons (pe_tup (pa_cons (pv 1) pa_nil)) (pa_cons (pe_tup pa_nil) pa_nil)))))
    (pss_one (ps_ret (pe_callG G_less_in ng hr (by rfl) D_less_in.m D_less_in.F.kp D_less_in.b .nil (pa_cons (pv 0) (pa_cons (pv 1) (pa_cons (pv 1) pa_nil))))))),
  (sv_seq (sv_drop (ev_call (av_cons (ev_var 0) (av_cons (ev_tup (av_cons (ev_var 1) av_nil)) (av_cons (ev_tup av_nil) av_nil)))))
    (sv_ret (ev_call (av_cons (ev_var 0) (av_cons (ev_var 1) (av_cons (ev_var 1) av_nil))))))⟩
theorem ok_changes_nothing {n : Nat} (B : B0 mg) {f__check_all : Addr} {fd__check_all : FuncData} (D__check_all : Dfn K mg "_check_all" s__check_all p__check_all f__check_all fd__check_all) {f_changes_nothing : Addr} {fd_changes_nothing : FuncData} (D_changes_nothing : Dfn K mg "changes_nothing" s_changes_nothing p_changes_nothing f_changes_nothing fd_changes_nothing) {f_fits_in : Addr} {fd_fits_in : FuncData} (D_fits_in : Dfn K mg "fits_in" s_fits_in p_fits_in f_fits_in fd_fits_in) {f_led_in : Addr} {fd_led_in : FuncData} (D_led_in : Dfn K mg "led_in" s_led_in p_led_in f_led_in fd_led_in) (G__check_all : GOk P w K mg base n f__check_all fd__check_all p__check_all (spM K 3 (m__check_all n))) (G_fits_in : GOk P w K mg base n f_fits_in fd_fits_in p_fits_in (spM K 3 (m_fits_in n))) (G_led_in : GOk P w K mg base n f_led_in fd_led_in p_led_in (spM K 3 (m_led_in n))) : GOk P w K mg base (n + 1) f_changes_nothing fd_changes_nothing p_changes_nothing (spM K 3 (m_changes_nothing (n + 1))) :=
  mkM D_changes_nothing.F sc_changes_nothing rfl rfl fun cdv A outer s H E ng hr => ⟨_, (pss_cons (ps_expr (pe_callG G__check_all ng hr (by rfl) D__check_all.m D__check_all.F.kp D__check_all.b .nil (pa_cons (pv 0) (pa_cons (pe_tup (pa_cons (pv 1) pa_nil)) (pa_cons (pe_tup (pa_cons (pv 2) pa_nil)) pa_nil)))))
    (pss_one (ps_ret (pe_and (pe_callG G_fits_in ng hr (by rfl) D_fits_in.m D_fits_in.F.kp D_fits_in.b .nil (pa_cons (pv 0) (pa_cons (pv 1) (pa_cons (pv 2) pa_nil)))) (pe_one (pe_cmpR (r := rEqA K) (op_eqA hr) (pe_callG G_led_in ng hr (by rfl) D_led_in.m D_led_in.F.kp D_led_in.b .nil (pa_cons (pv 0) (pa_cons (pv 1) (pa_cons (pv 2) pa_nil)))) (pv 1) (nomark _))))))),
  (sv_seq (sv_drop (ev_call (av_cons (ev_var 0) (av_cons (ev_tup (av_cons (ev_var 1) av_nil)) (av_cons (ev_tup (av_cons (ev_var 2) av_nil)) av_nil)))))
    (sv_ret (ev_and (ev_call (av_cons (ev_var 0) (av_cons (ev_var 1) (av_cons (ev_var 2) av_nil)))) (ev_op r2_eq (ev_call (av_cons (ev_var 0) (av_cons (ev_var 1) (av_cons (ev_var 2) av_nil)))) (ev_var 1)))))⟩
theorem ok__check_fitting {n : Nat} (B : B0 mg) {f__check_fitting : Addr} {fd__check_fitting : FuncData} (D__check_fitting : Dfn K mg "_check_fitting" s__check_fitting p__check_fitting f__check_fitting fd__check_fitting) {f_fits_in : Addr} {fd_fits_in : FuncData} (D_fits_in : Dfn K mg "fits_in" s_fits_in p_fits_in f_fits_in fd_fits_in) (G_fits_in : GOk P w K mg base n f_fits_in fd_fits_in p_fits_in (spM K 3 (m_fits_in n))) : GOk P w K mg base (n + 1) f__check_fitting fd__check_fitting p__check_fitting (spM K 3 (m__check_fitting (n + 1))) :=
  mkM D__check_fitting.F sc__check_fitting rfl rfl fun cdv A outer s H E ng hr => ⟨_, (pss_one (ps_if (pt_not (pt_val (pe_callG G_fits_in ng hr (by rfl) D_fits_in.m D_fits_in.F.kp D_fits_in.b .nil (pa_cons (pv 0) (pa_cons (pv 1) (pa_cons (pv 2) pa_nil)))))) (pss_one ps_never) pss_nil)),
  (sv_if (tv_not (tv_val (ev_call (av_cons (ev_var 0) (av_cons (ev_var 1) (av_cons (ev_var 2) av_nil)))))) sv_never sv_next)⟩
theorem ok_joined {n : Nat} (B : B0 mg) {f__check_all : Addr} {fd__check_all : FuncData} (D__check_all : Dfn K mg "_check_all" s__check_all p__check_all f__check_all fd__check_all) {f__check_fitting : Addr} {fd__check_fitting : FuncData} (D__check_fitting : Dfn K mg "_check_fitting" s__check_fitting p__check_fitting f__check_fitting fd__check_fitting) {f_joined : Addr} {fd_joined : FuncData} (D_joined : Dfn K mg "joined" s_joined p_joined f_joined fd_joined) {f_joined_in : Addr} {fd_joined_in : FuncData} (D_joined_in : Dfn K mg "joined_in" s_joined_in p_joined_in f_joined_in fd_joined_in) {f_led_in : Addr} {fd_led_in : FuncData} (D_led_in : Dfn K mg "led_in" s_led_in p_led_in f_led_in fd_led_in) (G__check_all : GOk P w K mg base n f__check_all fd__check_all p__check_all (spM K 3 (m__check_all n))) (G__check_fitting : GOk P w K mg base n f__check_fitting fd__check_fitting p__check_fitting (spM K 3 (m__check_fitting n))) (G_joined_in : GOk P w K mg base n f_joined_in fd_joined_in p_joined_in (spM K 4 (m_joined_in n))) (G_led_in : GOk P w K mg base n f_led_in fd_led_in p_led_in (spM K 3 (m_led_in n))) : GOk P w K mg base (n + 1) f_joined fd_joined p_joined (spM K 4 (m_joined (n + 1))) :=
  mkM D_joined.F sc_joined rfl rfl fun cdv A outer s H E ng hr => ⟨_, (pss_cons (ps_expr (pe_callG G__check_all ng hr (by rfl) D__check_all.m D__check_all.F.kp D__check_all.b .nil (pa_cons (pv 0) (pa_cons (pe_tup (pa_cons (pv 1) pa_nil)) (pa_cons (pe_tup (pa_cons (pv 2) (pa_cons (pv 3) pa_nil))) pa_nil)))))
    (pss_cons (ps_expr (pe_callG G__check_fitting ng hr (by rfl) D__check_fitting.m D__check_fitting.F.kp D__check_fitting.b .nil (pa_cons (pv 0) (pa_cons (pv 1) (pa_cons (pv 2) pa_nil)))))
    (pss_cons (ps_expr (pe_callG G__check_fitting ng hr (by rfl) D__check_fitting.m D__check_fitting.F.kp D__check_fitting.b .nil (pa_cons (pv 0) (pa_cons (pe_callG G_led_in ng hr (by rfl) D_led_in.m D_led_in.F.kp D_led_in.b .nil (pa_cons (pv 0) (pa_cons (pv 1) (pa_cons (pv 2) pa_nil)))) (pa_cons (pv 3) pa_nil)))))
    (pss_one (ps_ret (pe_callG G_joined_in ng hr (by rfl) D_joined_in.m D_joined_in.F.kp D_joined_in.b .nil (pa_cons (pv 0) (pa_cons (pv 1) (pa_cons (pv 2) (pa_cons (pv 3) pa_nil)))))))))),
  (sv_seq (sv_drop (ev_call (av_cons (ev_var 0) (av_cons (ev_tup (av_cons (ev_var 1) av_nil)) (av_cons (ev_tup (av_cons (ev_var 2) (av_cons (ev_var 3) av_nil))) av_nil)))))
    (sv_seq (sv_drop (ev_call (av_cons (ev_var 0) (av_cons (ev_var 1) (av_cons (ev_var 2) av_nil)))))
    (sv_seq (sv_drop (ev_call (av_cons (ev_var 0) (av_cons (ev_call (av_cons (ev_var 0) (av_cons (ev_var 1) (av_cons (ev_var 2) av_nil)))) (av_cons (ev_var 3) av_nil)))))
    (sv_ret (ev_call (av_cons (ev_var 0) (av_cons (ev_var 1) (av_cons (ev_var 2) (av_cons (ev_var 3) av_nil)))))))))⟩
theorem ok_back {n : Nat} (B : B0 mg) {f__check_all : Addr} {fd__check_all : FuncData} (D__check_all : Dfn K mg "_check_all" s__check_all p__check_all f__check_all fd__check_all) {f__check_fitting : Addr} {fd__check_fitting : FuncData} (D__check_fitting : Dfn K mg "_check_fitting" s__check_fitting p__check_fitting f__check_fitting fd__check_fitting) {f_back : Addr} {fd_back : FuncData} (D_back : Dfn K mg "back" s_back p_back f_back fd_back) {f_back_in : Addr} {fd_back_in : FuncData} (D_back_in : Dfn K mg "back_in" s_back_in p_back_in f_back_in fd_back_in) (G__check_all : GOk P w K mg base n f__check_all fd__check_all p__check_all (spM K 3 (m__check_all n))) (G__check_fitting : GOk P w K mg base n f__check_fitting fd__check_fitting p__check_fitting (spM K 3 (m__check_fitting n))) (G_back_in : GOk P w K mg base n f_back_in fd_back_in p_back_in (spM K 3 (m_back_in n))) : GOk P w K mg base (n + 1) f_back fd_back p_back (spM K 3 (m_back (n + 1))) :=
  mkM D_back.F sc_back rfl rfl fun cdv A outer s H E ng hr => ⟨_, (pss_cons (ps_expr (pe_callG G__check_all ng hr (by rfl) D__check_all.m D__check_all.F.kp D__check_all.b .nil (pa_cons (pv 0) (pa_cons (pe_tup (pa_cons (pv 1) pa_nil)) (pa_cons (pe_tup (pa_cons (pv 2) pa_nil)) pa_nil)))))
    (pss_cons (ps_expr (pe_callG G__check_fitting ng hr (by rfl) D__check_fitting.m D__check_fitting.F.kp D__check_fitting.b .nil (pa_cons (pv 0) (pa_cons (pv 1) (pa_cons (pv 2) pa_nil)))))
    (pss_one (ps_ret (pe_callG G_back_in ng hr (by rfl) D_back_in.m D_back_in.F.kp D_back_in.b .nil (pa_cons (pv 0) (pa_cons (pv 1) (pa_cons (pv 2) pa_nil)))))))),
  (sv_seq (sv_drop (ev_call (av_cons (ev_var 0) (av_cons (ev_tup (av_cons (ev_var 1) av_nil)) (av_cons (ev_tup (av_cons (ev_var 2) av_nil)) av_nil)))))
    (sv_seq (sv_drop (ev_call (av_cons (ev_var 0) (av_cons (ev_var 1) (av_cons (ev_var 2) av_nil)))))
    (sv_ret (ev_call (av_cons (ev_var 0) (av_cons (ev_var 1) (av_cons (ev_var 2) av_nil)))))))⟩
theorem ok__law_urn {n : Nat} (B : B0 mg) {f__law_urn : Addr} {fd__law_urn : FuncData} (D__law_urn : Dfn K mg "_law_urn" s__law_urn p__law_urn f__law_urn fd__law_urn) : GOk P w K mg base (n + 1) f__law_urn fd__law_urn p__law_urn (spM K 2 (m__law_urn (n + 1))) :=
  mkM D__law_urn.F sc__law_urn rfl rfl fun cdv A outer s H E ng hr => ⟨_, (pss_cons (ps_set (i := 2) sc__law_urn.nd rfl (.inl rfl) (pe_ifExp (pt_cmpR (r := rLt K) (op_ltA hr) (pv 1) (pe_callB (r := M.rLen K) c_lenA (by rfl) B.len PySem.boot_len (pa_cons (pv 0) pa_nil)) (nomark _)) (pe_callTy c_int (by rfl) B.int PyProof.Rows.boot_int (pa_cons (pe_ix (r := rIx K) ix_seq (pv 0) (pv 1) (fun _ _ => rfl)) pa_nil)) pe_int))
    (pss_cons (ps_set (i := 3) sc__law_urn.nd rfl (.inl rfl) (pe_op (r := (rAdd K)) op_plus pe_int (pe_op (r := (rMul K)) op_star pe_int (pv 1))))
    (pss_cons (ps_for PassesOwn.never rfl (pi_any (pe_slice (r := rSlAny K) sl_any (pv 0) po_none (po_some pe_int))) (pg_name (i := 4) sc__law_urn.nd rfl (.inl rfl)) (pss_one (ps_set (i := 3) sc__law_urn.nd rfl (.inl rfl) (pe_op (r := (rI (fun _ j => 0 < j) fun i j => .int (i % j))) op_mod (pe_callTy c_int (by rfl) B.int PyProof.Rows.boot_int (pa_cons (pe_op (r := (rAdd K)) op_plus (pe_op (r := (rAdd K)) op_plus (pe_op (r := (rMul K)) op_star (pv 3) pe_int) (pe_op (r := (rI (fun _ j => 0 < j) fun i j => .int (i % j))) op_mod (pe_callTy c_int (by rfl) B.int PyProof.Rows.boot_int (pa_cons (pv 4) pa_nil)) pe_int)) pe_int) pa_nil)) pe_int))))
    (pss_cons (ps_set (i := 3) sc__law_urn.nd rfl (.inl rfl) (pe_op (r := (rI (fun _ j => 0 < j) fun i j => .int (i % j))) op_mod (pe_callTy c_int (by rfl) B.int PyProof.Rows.boot_int (pa_cons (pe_op (r := (rAdd K)) op_plus (pe_op (r := (rAdd K)) op_plus (pe_op (r := (rMul K)) op_star (pv 3) pe_int) (pe_op (r := (rMul K)) op_star (pe_op (r := (rI (fun _ j => 0 < j) fun i j => .int (i % j))) op_mod (pe_callTy c_int (by rfl) B.int PyProof.Rows.boot_int (pa_cons (pv 2) pa_nil)) pe_int) pe_int)) pe_int) pa_nil)) pe_int))
    (pss_one (ps_ret (pe_lst (pa_cons (pe_ifExp (PW.pt (pw_or (pt_cmpR (r := rLt K) (op_ltA hr) (pv 2) pe_int (nomark _)) (pw_or1 (pt_cmpR (r := rI0 fun i j => .bl (decide (j ≤ i))) op_ge (pv 2) (pe_op (r := (rI CPow fun i j => .int (i ^ j.toNat))) op_pow pe_int pe_int) (nomark _))))) (pe_callB c_abs (by rfl) B.abs PyProof.Rows.boot_abs (pa_cons (pv 2) pa_nil)) pe_int) (pa_cons (pv 3) (pa_cons pe_int pa_nil)))))))))),
  (sv_seq (sv_asg (ev_if (tv_test (ev_op r2_lt (ev_var 1) (ev_cb rn_len (av_cons (ev_var 0) av_nil)))) (ev_cb rn_int (av_cons (ev_op r2_ix (ev_var 0) (ev_var 1)) av_nil)) ev_int) (gv_name (vs := [2]) (by decide)))
    (sv_seq (sv_asg (ev_op r2_add ev_int (ev_op r2_mul ev_int (ev_var 1))) (gv_name (vs := [3]) (by decide)))
    (sv_seq (sv_for (iv_any (ev_sl rs_sl (ev_var 0) ov_none (ov_some ev_int))) (gv_name (vs := [4]) (by decide)) (sv_asg (ev_op r2_mod (ev_cb rn_int (av_cons (ev_op r2_add (ev_op r2_add (ev_op r2_mul (ev_var 3) ev_int) (ev_op r2_mod (ev_cb rn_int (av_cons (ev_var 4) av_nil)) ev_int)) ev_int) av_nil)) ev_int) (gv_name (vs := [3]) (by decide))))
    (sv_seq (sv_asg (ev_op r2_mod (ev_cb rn_int (av_cons (ev_op r2_add (ev_op r2_add (ev_op r2_mul (ev_var 3) ev_int) (ev_op r2_mul (ev_op r2_mod (ev_cb rn_int (av_cons (ev_var 2) av_nil)) ev_int) ev_int)) ev_int) av_nil)) ev_int) (gv_name (vs := [3]) (by decide)))
    (sv_ret (ev_lstC (av_cons (ev_if (tv_or (tv_test (ev_op r2_lt (ev_var 2) ev_int)) (tv_test (ev_op r2_ge (ev_var 2) (ev_op r2_pow ev_int ev_int)))) (ev_cb rn_abs (av_cons (ev_var 2) av_nil)) ev_int) (av_cons (ev_var 3) (av_cons ev_int av_nil)))))))))⟩
end
end N25
namespace N25
open PySem PySem.Spec PyProof.Rows L2 Z M
section
variable {P : Program} {w : World} {K : PySem.W.Frag} {mg : Str → Option Value} {base : Heap}
theorem ok__law_pull {n : Nat} (B : B0 mg) {f__law_pull : Addr} {fd__law_pull : FuncData} (D__law_pull : Dfn K mg "_law_pull" s__law_pull p__law_pull f__law_pull fd__law_pull) : GOk P w K mg base (n + 1) f__law_pull fd__law_pull p__law_pull (spM K 2 (m__law_pull (n + 1))) :=
  mkM D__law_pull.F sc__law_pull rfl rfl fun cdv A outer s H E ng hr => ⟨_, (pss_cons (ps_if (pt_cmpR (r := rI0 fun i j => .bl (decide (j < i))) op_gt (pe_ix (r := rIx K) ix_seq (pv 0) pe_int (fun _ _ => rfl)) pe_int (nomark _)) (pss_cons (ps_asg (pe_callB c_divmodW (by rfl) B.divmod PyProof.Rows.boot_divmod (pa_cons (pe_ix (r := rIx K) ix_seq (pv 0) pe_int (fun _ _ => rfl)) (pa_cons (pv 1) pa_nil))) (pg_tup (by rfl) (pgs_cons (pg_sub (pv 0) pe_int set_list) (pgs_cons (pg_name (i := 2) sc__law_pull.nd rfl (.inl rfl)) pgs_nil))))
    (pss_one (ps_ret (pv 2)))) pss_nil)
    (pss_cons (ps_asg (pe_op (r := (rAdd K)) op_plus (pe_ix (r := rIx K) ix_seq (pv 0) pe_int (fun _ _ => rfl)) pe_int) (pg_sub (pv 0) pe_int set_list))
    (pss_cons (ps_set (i := 3) sc__law_pull.nd rfl (.inl rfl) (pe_op (r := (rI (fun _ j => 0 < j) fun i j => .int (i % j))) op_mod (pe_callTy c_int (by rfl) B.int PyProof.Rows.boot_int (pa_cons (pe_op (r := (rAdd K)) op_plus (pe_op (r := (rAdd K)) op_plus (pe_op (r := (rMul K)) op_star (pe_ix (r := rIx K) ix_seq (pv 0) pe_int (fun _ _ => rfl)) pe_int) (pe_op (r := (rMul K)) op_star (pe_ix (r := rIx K) ix_seq (pv 0) pe_int (fun _ _ => rfl)) pe_int)) pe_int) pa_nil)) pe_int))
    (pss_cons (ps_asg (pv 3) (pg_sub (pv 0) pe_int set_list))
    (pss_one (ps_ret (pe_op (r := (rI (fun _ j => 0 < j) fun i j => .int (i % j))) op_mod (pe_callTy c_int (by rfl) B.int PyProof.Rows.boot_int (pa_cons (pe_op (r := (rI CDiv fun i j => .int (i / j))) op_fdiv (pe_op (r := (rI (fun _ j => 0 < j) fun i j => .int (i % j))) op_mod (pe_callTy c_int (by rfl) B.int PyProof.Rows.boot_int (pa_cons (pe_op (r := (rMul K)) op_star (pv 3) (pe_op (r := (rAdd K)) op_plus (pe_op (r := (rI (fun _ j => 0 < j) fun i j => .int (i % j))) op_mod (pe_callTy c_int (by rfl) B.int PyProof.Rows.boot_int (pa_cons (pv 3) pa_nil)) pe_int) pe_int)) pa_nil)) pe_int) pe_int) pa_nil)) (pv 1)))))))),
  (sv_seq (sv_if (tv_test (ev_op r2_gt (ev_op r2_ix (ev_var 0) ev_int) ev_int)) (sv_seq (sv_asg (ev_cb rn_divmodW (av_cons (ev_op r2_ix (ev_var 0) ev_int) (av_cons (ev_var 1) av_nil))) (gv_tup (gsv_cons (gv_sub (ws := [2]) (ev_var 0) ev_int) (gsv_cons (gv_name (vs := [2]) (by decide)) gsv_nil))))
    (sv_ret (ev_var 2))) sv_next)
    (sv_seq (sv_asg (ev_op r2_add (ev_op r2_ix (ev_var 0) ev_int) ev_int) (gv_sub (ws := []) (ev_var 0) ev_int))
    (sv_seq (sv_asg (ev_op r2_mod (ev_cb rn_int (av_cons (ev_op r2_add (ev_op r2_add (ev_op r2_mul (ev_op r2_ix (ev_var 0) ev_int) ev_int) (ev_op r2_mul (ev_op r2_ix (ev_var 0) ev_int) ev_int)) ev_int) av_nil)) ev_int) (gv_name (vs := [3]) (by decide)))
    (sv_seq (sv_asg (ev_var 3) (gv_sub (ws := []) (ev_var 0) ev_int))
    (sv_ret (ev_op r2_mod (ev_cb rn_int (av_cons (ev_op r2_fdiv (ev_op r2_mod (ev_cb rn_int (av_cons (ev_op r2_mul (ev_var 3) (ev_op r2_add (ev_op r2_mod (ev_cb rn_int (av_cons (ev_var 3) av_nil)) ev_int) ev_int)) av_nil)) ev_int) ev_int) av_nil)) (ev_var 1)))))))⟩
theorem ok__law_one {n : Nat} (B : B0 mg) {f__law_one : Addr} {fd__law_one : FuncData} (D__law_one : Dfn K mg "_law_one" s__law_one p__law_one f__law_one fd__law_one) {f__law_pull : Addr} {fd__law_pull : FuncData} (D__law_pull : Dfn K mg "_law_pull" s__law_pull p__law_pull f__law_pull fd__law_pull) (G__law_pull : GOk P w K mg base n f__law_pull fd__law_pull p__law_pull (spM K 2 (m__law_pull n))) : GOk P w K mg base (n + 1) f__law_one fd__law_one p__law_one (spM K 2 (m__law_one (n + 1))) :=
  mkM D__law_one.F sc__law_one rfl rfl fun cdv A outer s H E ng hr => ⟨_, (pss_one (ps_ret (pe_ix (r := rIx K) ix_seq (pv 1) (pe_callG G__law_pull ng hr (by rfl) D__law_pull.m D__law_pull.F.kp D__law_pull.b .nil (pa_cons (pv 0) (pa_cons (pe_callB (r := M.rLen K) c_lenA (by rfl) B.len PySem.boot_len (pa_cons (pv 1) pa_nil)) pa_nil))) (fun _ _ => rfl)))),
  (sv_ret (ev_op r2_ix (ev_var 1) (ev_call (av_cons (ev_var 0) (av_cons (ev_cb rn_len (av_cons (ev_var 1) av_nil)) av_nil)))))⟩
theorem ok__law_is {n : Nat} (B : B0 mg) {f__law_is : Addr} {fd__law_is : FuncData} (D__law_is : Dfn K mg "_law_is" s__law_is p__law_is f__law_is fd__law_is) : GOk P w K mg base (n + 1) f__law_is fd__law_is p__law_is (spM K 2 (m__law_is (n + 1))) :=
  mkM D__law_is.F sc__law_is rfl rfl fun cdv A outer s H E ng hr => ⟨_, (pss_one (ps_ret (pe_cmpR (r := rEqA K) (op_eqA hr) (pe_callB (r := rRepr K) (call_repr ng (u80 hr)) (by rfl) B.repr PyProof.Rows.boot_repr (pa_cons (pv 0) pa_nil)) (pe_callB (r := rRepr K) (call_repr ng (u80 hr)) (by rfl) B.repr PyProof.Rows.boot_repr (pa_cons (pv 1) pa_nil)) (nomark _)))),
  (sv_ret (ev_op r2_eq (ev_cb rn_repr (av_cons (ev_var 0) av_nil)) (ev_cb rn_repr (av_cons (ev_var 1) av_nil))))⟩
theorem ok__law_truth {n : Nat} (B : B0 mg) {f__law_truth : Addr} {fd__law_truth : FuncData} (D__law_truth : Dfn K mg "_law_truth" s__law_truth p__law_truth f__law_truth fd__law_truth) : GOk P w K mg base (n + 1) f__law_truth fd__law_truth p__law_truth (spM K 0 (m__law_truth (n + 1))) :=
  mkM D__law_truth.F sc__law_truth rfl rfl fun cdv A outer s H E ng hr => ⟨_, (pss_one (ps_ret (pe_tup (pa_cons pe_str (pa_cons (pe_tup (pa_cons pe_str pa_nil)) (pa_cons (pe_tup (pa_cons pe_str pa_nil)) pa_nil)))))),
  (sv_ret (ev_tup (av_cons ev_str (av_cons (ev_tup (av_cons ev_str av_nil)) (av_cons (ev_tup (av_cons ev_str av_nil)) av_nil)))))⟩
theorem ok__law_plain_kind {n : Nat} (B : B0 mg) {f__law_plain_kind : Addr} {fd__law_plain_kind : FuncData} (D__law_plain_kind : Dfn K mg "_law_plain_kind" s__law_plain_kind p__law_plain_kind f__law_plain_kind fd__law_plain_kind) {f__law_pull : Addr} {fd__law_pull : FuncData} (D__law_pull : Dfn K mg "_law_pull" s__law_pull p__law_pull f__law_pull fd__law_pull) {f__law_truth : Addr} {fd__law_truth : FuncData} (D__law_truth : Dfn K mg "_law_truth" s__law_truth p__law_truth f__law_truth fd__law_truth) (G__law_plain_kind : GOk P w K mg base n f__law_plain_kind fd__law_plain_kind p__law_plain_kind (spM K 2 (m__law_plain_kind n))) (G__law_pull : GOk P w K mg base n f__law_pull fd__law_pull p__law_pull (spM K 2 (m__law_pull n))) (G__law_truth : GOk P w K mg base n f__law_truth fd__law_truth p__law_truth (spM K 0 (m__law_truth n))) : GOk P w K mg base (n + 1) f__law_plain_kind fd__law_plain_kind p__law_plain_kind (spM K 2 (m__law_plain_kind (n + 1))) :=
  mkM D__law_plain_kind.F sc__law_plain_kind rfl rfl fun cdv A outer s H E ng hr => ⟨_, (pss_cons (ps_set (i := 2) sc__law_plain_kind.nd rfl (.inl rfl) (pe_callG G__law_pull ng hr (by rfl) D__law_pull.m D__law_pull.F.kp D__law_pull.b .nil (pa_cons (pv 0) (pa_cons pe_int pa_nil))))
    (pss_cons (ps_if (PW.pt (pw_or (pt_cmpR (r := rLt K) (op_ltA hr) (pv 1) pe_int (nomark _)) (pw_or1 (pt_cmpR (r := rLt K) (op_ltA hr) (pv 2) pe_int (nomark _))))) (pss_one (ps_ret (pe_ifExp (pt_cmpR (r := rEqA K) (op_eqA hr) (pv 2) pe_int (nomark _)) (pe_tup (pa_cons pe_str pa_nil)) (pe_tup (pa_cons pe_str pa_nil))))) pss_nil)
    (pss_cons (ps_if (pt_cmpR (r := rEqA K) (op_eqA hr) (pv 2) pe_int (nomark _)) (pss_one (ps_ret (pe_callG0 G__law_truth ng hr (by rfl) D__law_truth.m D__law_truth.F.kp D__law_truth.b .nil))) pss_nil)
    (pss_cons (ps_set (i := 3) sc__law_plain_kind.nd rfl (.inl rfl) (pe_callG G__law_plain_kind ng hr (by rfl) D__law_plain_kind.m D__law_plain_kind.F.kp D__law_plain_kind.b .nil (pa_cons (pv 0) (pa_cons (pe_op (r := (rI0 fun i j => .int (i - j))) op_sub (pv 1) pe_int) pa_nil))))
    (pss_one (ps_ret (pe_tup (pa_cons (pe_ifExp (pt_cmpR (r := rLt K) (op_ltA hr) (pv 2) pe_int (nomark _)) pe_str pe_str) (pa_cons (pv 3) (pa_cons (pe_callG G__law_plain_kind ng hr (by rfl) D__law_plain_kind.m D__law_plain_kind.F.kp D__law_plain_kind.b .nil (pa_cons (pv 0) (pa_cons (pe_op (r := (rI0 fun i j => .int (i - j))) op_sub (pv 1) pe_int) pa_nil))) pa_nil)))))))))),
  (sv_seq (sv_asg (ev_call (av_cons (ev_var 0) (av_cons ev_int av_nil))) (gv_name (vs := [2]) (by decide)))
    (sv_seq (sv_if (tv_or (tv_test (ev_op r2_lt (ev_var 1) ev_int)) (tv_test (ev_op r2_lt (ev_var 2) ev_int))) (sv_ret (ev_if (tv_test (ev_op r2_eq (ev_var 2) ev_int)) (ev_tup (av_cons ev_str av_nil)) (ev_tup (av_cons ev_str av_nil)))) sv_next)
    (sv_seq (sv_if (tv_test (ev_op r2_eq (ev_var 2) ev_int)) (sv_ret (ev_call av_nil)) sv_next)
    (sv_seq (sv_asg (ev_call (av_cons (ev_var 0) (av_cons (ev_op r2_sub (ev_var 1) ev_int) av_nil))) (gv_name (vs := [3]) (by decide)))
    (sv_ret (ev_tup (av_cons (ev_if (tv_test (ev_op r2_lt (ev_var 2) ev_int)) ev_str ev_str) (av_cons (ev_var 3) (av_cons (ev_call (av_cons (ev_var 0) (av_cons (ev_op r2_sub (ev_var 1) ev_int) av_nil))) av_nil)))))))))⟩
theorem ok__law_data_kind {n : Nat} (B : B0 mg) {f__law_data_kind : Addr} {fd__law_data_kind : FuncData} (D__law_data_kind : Dfn K mg "_law_data_kind" s__law_data_kind p__law_data_kind f__law_data_kind fd__law_data_kind) {f__law_plain_kind : Addr} {fd__law_plain_kind : FuncData} (D__law_plain_kind : Dfn K mg "_law_plain_kind" s__law_plain_kind p__law_plain_kind f__law_plain_kind fd__law_plain_kind) {f__law_pull : Addr} {fd__law_pull : FuncData} (D__law_pull : Dfn K mg "_law_pull" s__law_pull p__law_pull f__law_pull fd__law_pull) (G__law_data_kind : GOk P w K mg base n f__law_data_kind fd__law_data_kind p__law_data_kind (spM K 2 (m__law_data_kind n))) (G__law_plain_kind : GOk P w K mg base n f__law_plain_kind fd__law_plain_kind p__law_plain_kind (spM K 2 (m__law_plain_kind n))) (G__law_pull : GOk P w K mg base n f__law_pull fd__law_pull p__law_pull (spM K 2 (m__law_pull n))) : GOk P w K mg base (n + 1) f__law_data_kind fd__law_data_kind p__law_data_kind (spM K 2 (m__law_data_kind (n + 1))) :=
  mkM D__law_data_kind.F sc__law_data_kind rfl rfl fun cdv A outer s H E ng hr => ⟨_, (pss_cons (ps_set (i := 2) sc__law_data_kind.nd rfl (.inl rfl) (pe_callG G__law_pull ng hr (by rfl) D__law_pull.m D__law_pull.F.kp D__law_pull.b .nil (pa_cons (pv 0) (pa_cons pe_int pa_nil))))
    (pss_cons (ps_if (PW.pt (pw_or (pt_cmpR (r := rLt K) (op_ltA hr) (pv 1) pe_int (nomark _)) (pw_or1 (pt_cmpR (r := rLt K) (op_ltA hr) (pv 2) pe_int (nomark _))))) (pss_one (ps_ret (pe_callG G__law_plain_kind ng hr (by rfl) D__law_plain_kind.m D__law_plain_kind.F.kp D__law_plain_kind.b .nil (pa_cons (pv 0) (pa_cons (pv 1) pa_nil))))) pss_nil)
    (pss_cons (ps_if (pt_cmpR (r := rLt K) (op_ltA hr) (pv 2) pe_int (nomark _)) (pss_one (ps_ret (pe_tup (pa_cons pe_str (pa_cons (pe_callG G__law_plain_kind ng hr (by rfl) D__law_plain_kind.m D__law_plain_kind.F.kp D__law_plain_kind.b .nil (pa_cons (pv 0) (pa_cons (pe_op (r := (rI0 fun i j => .int (i - j))) op_sub (pv 1) pe_int) pa_nil))) pa_nil))))) pss_nil)
    (pss_cons (ps_set (i := 3) sc__law_data_kind.nd rfl (.inl rfl) (pe_callG G__law_data_kind ng hr (by rfl) D__law_data_kind.m D__law_data_kind.F.kp D__law_data_kind.b .nil (pa_cons (pv 0) (pa_cons (pe_op (r := (rI0 fun i j => .int (i - j))) op_sub (pv 1) pe_int) pa_nil))))
    (pss_one (ps_ret (pe_tup (pa_cons (pe_ifExp (pt_cmpR (r := rEqA K) (op_eqA hr) (pv 2) pe_int (nomark _)) pe_str pe_str) (pa_cons (pv 3) (pa_cons (pe_callG G__law_data_kind ng hr (by rfl) D__law_data_kind.m D__law_data_kind.F.kp D__law_data_kind.b .nil (pa_cons (pv 0) (pa_cons (pe_op (r := (rI0 fun i j => .int (i - j))) op_sub (pv 1) pe_int) pa_nil))) pa_nil)))))))))),
  (sv_seq (sv_asg (ev_call (av_cons (ev_var 0) (av_cons ev_int av_nil))) (gv_name (vs := [2]) (by decide)))
    (sv_seq (sv_if (tv_or (tv_test (ev_op r2_lt (ev_var 1) ev_int)) (tv_test (ev_op r2_lt (ev_var 2) ev_int))) (sv_ret (ev_call (av_cons (ev_var 0) (av_cons (ev_var 1) av_nil)))) sv_next)
    (sv_seq (sv_if (tv_test (ev_op r2_lt (ev_var 2) ev_int)) (sv_ret (ev_tup (av_cons ev_str (av_cons (ev_call (av_cons (ev_var 0) (av_cons (ev_op r2_sub (ev_var 1) ev_int) av_nil))) av_nil)))) sv_next)
    (sv_seq (sv_asg (ev_call (av_cons (ev_var 0) (av_cons (ev_op r2_sub (ev_var 1) ev_int) av_nil))) (gv_name (vs := [3]) (by decide)))
    (sv_ret (ev_tup (av_cons (ev_if (tv_test (ev_op r2_eq (ev_var 2) ev_int)) ev_str ev_str) (av_cons (ev_var 3) (av_cons (ev_call (av_cons (ev_var 0) (av_cons (ev_op r2_sub (ev_var 1) ev_int) av_nil))) av_nil)))))))))⟩
theorem ok__law_bag {n : Nat} (B : B0 mg) {f__law_bag : Addr} {fd__law_bag : FuncData} (D__law_bag : Dfn K mg "_law_bag" s__law_bag p__law_bag f__law_bag fd__law_bag) : GOk P w K mg base (n + 1) f__law_bag fd__law_bag p__law_bag (spM K 1 (m__law_bag (n + 1))) :=
  mkBag D__law_bag.F sc__law_bag rfl rfl fun cdv A outer s H E ng hr => (pss_cons (ps_set (i := 1) sc__law_bag.nd rfl (.inr rfl) pe_dnewK)
    (pss_cons (ps_for PassesOwn.never rfl (pi_any (pv 0)) (pg_tup (by rfl) (pgs_cons (pg_name (i := 2) sc__law_bag.nd rfl (.inl rfl)) (pgs_cons (pg_name (i := 3) sc__law_bag.nd rfl (.inl rfl)) pgs_nil))) (pss_one (ps_asg (pe_op (r := rAdd K) op_plus (pe_bagGet (u20 (u80 hr)) (pv 1) (pv 2) pe_int ⟨by rfl, by rfl, by rfl, by rfl⟩) (pv 3)) (pg_sub (pv 1) (pv 2) (set_bag (u20 (u80 hr)))))))
    (pss_one (ps_ret (pe_callTy (r := wTupOf K) c_tuple (by rfl) B.tuple PyProof.Rows.boot_tuple (pa_cons (pe_lc (own := [("_law_value_here", 2)]) (g := (gName 2)) (by rfl) sc__law_bag.nd (pi_list (pe_callB (r := rBagSort P w K) (cr_bagSort (u80 hr) (by rfl)) (by rfl) B.sorted PyProof.Rows.boot_sorted (pa_cons (pv 1) pa_nil))) (blkOk_by (own := [("_law_value_here", 2)]) (N := n__law_bag) (sc := defScope s__law_bag) (by decide +kernel)) (fun _ _ _ _ _ => (pg_name (i := 2) sc__law_bag.nd rfl (.inl rfl))) (fun _ _ _ _ _ => pts_one (pt_cmpR (r := rNeA K) (op_neA hr) (pe_ix (r := rBagIx P w K) (ix_bag (u20 (u80 hr))) (pv 1) (pv 2) (fun _ _ => rfl)) pe_int (nomark _))) (fun _ _ _ _ _ => (pe_tup (pa_cons (pv 2) (pa_cons (pe_ix (r := rBagIx P w K) (ix_bag (u20 (u80 hr))) (pv 1) (pv 2) (fun _ _ => rfl)) pa_nil))))) pa_nil))))))
theorem ok__law_whole {n : Nat} (B : B0 mg) {f__law_one : Addr} {fd__law_one : FuncData} (D__law_one : Dfn K mg "_law_one" s__law_one p__law_one f__law_one fd__law_one) {f__law_pull : Addr} {fd__law_pull : FuncData} (D__law_pull : Dfn K mg "_law_pull" s__law_pull p__law_pull f__law_pull fd__law_pull) {f__law_whole : Addr} {fd__law_whole : FuncData} (D__law_whole : Dfn K mg "_law_whole" s__law_whole p__law_whole f__law_whole fd__law_whole) (G__law_one : GOk P w K mg base n f__law_one fd__law_one p__law_one (spM K 2 (m__law_one n))) (G__law_pull : GOk P w K mg base n f__law_pull fd__law_pull p__law_pull (spM K 2 (m__law_pull n))) : GOk P w K mg base (n + 1) f__law_whole fd__law_whole p__law_whole (spM K 1 (m__law_whole (n + 1))) :=
  mkM D__law_whole.F sc__law_whole rfl rfl fun cdv A outer s H E ng hr => ⟨_, (pss_one (ps_ret (pe_callG G__law_one ng hr (by rfl) D__law_one.m D__law_one.F.kp D__law_one.b .nil (pa_cons (pv 0) (pa_cons (pe_tup (pa_cons pe_int (pa_cons pe_int (pa_cons pe_int (pa_cons pe_int (pa_cons (pe_un un_neg pe_int) (pa_cons (pe_un un_neg pe_int) (pa_cons pe_int (pa_cons (pe_op (r := (rI0 fun i j => .int (i - j))) op_sub (pe_callG G__law_pull ng hr (by rfl) D__law_pull.m D__law_pull.F.kp D__law_pull.b .nil (pa_cons (pv 0) (pa_cons pe_int pa_nil))) pe_int) (pa_cons (pe_op (r := (rI0 fun i j => .int (i - j))) op_sub (pe_callG G__law_pull ng hr (by rfl) D__law_pull.m D__law_pull.F.kp D__law_pull.b .nil (pa_cons (pv 0) (pa_cons (pe_op (r := (rI CPow fun i j => .int (i ^ j.toNat))) op_pow pe_int pe_int) pa_nil))) (pe_op (r := (rMul K)) op_star pe_int (pe_op (r := (rI CPow fun i j => .int (i ^ j.toNat))) op_pow pe_int pe_int))) pa_nil)))))))))) pa_nil))))),
  (sv_ret (ev_call (av_cons (ev_var 0) (av_cons (ev_tup (av_cons ev_int (av_cons ev_int (av_cons ev_int (av_cons ev_int (av_cons (ev_un r1_neg ev_int) (av_cons (ev_un r1_neg ev_int) (av_cons ev_int (av_cons (ev_op r2_sub (ev_call (av_cons (ev_var 0) (av_cons ev_int av_nil))) ev_int) (av_cons (ev_op r2_sub (ev_call (av_cons (ev_var 0) (av_cons (ev_op r2_pow ev_int ev_int) av_nil))) (ev_op r2_mul ev_int (ev_op r2_pow ev_int ev_int))) av_nil)))))))))) av_nil))))⟩
theorem ok__law_value {n : Nat} (B : B0 mg) {f__law_bag : Addr} {fd__law_bag : FuncData} (D__law_bag : Dfn K mg "_law_bag" s__law_bag p__law_bag f__law_bag fd__law_bag) {f__law_one : Addr} {fd__law_one : FuncData} (D__law_one : Dfn K mg "_law_one" s__law_one p__law_one f__law_one fd__law_one) {f__law_pull : Addr} {fd__law_pull : FuncData} (D__law_pull : Dfn K mg "_law_pull" s__law_pull p__law_pull f__law_pull fd__law_pull) {f__law_value : Addr} {fd__law_value : FuncData} (D__law_value : Dfn K mg "_law_value" s__law_value p__law_value f__law_value fd__law_value) {f__law_whole : Addr} {fd__law_whole : FuncData} (D__law_whole : Dfn K mg "_law_whole" s__law_whole p__law_whole f__law_whole fd__law_whole) (G__law_bag : GOk P w K mg base n f__law_bag fd__law_bag p__law_bag (spM K 1 (m__law_bag n))) (G__law_one : GOk P w K mg base n f__law_one fd__law_one p__law_one (spM K 2 (m__law_one n))) (G__law_pull : GOk P w K mg base n f__law_pull fd__law_pull p__law_pull (spM K 2 (m__law_pull n))) (G__law_value : GOk P w K mg base n f__law_value fd__law_value p__law_value (spM K 2 (m__law_value n))) (G__law_whole : GOk P w K mg base n f__law_whole fd__law_whole p__law_whole (spM K 1 (m__law_whole n))) : GOk P w K mg base (n + 1) f__law_value fd__law_value p__law_value (spM K 2 (m__law_value (n + 1))) :=
  mkM D__law_value.F sc__law_value rfl rfl fun cdv A outer s H E ng hr => ⟨_, (pss_cons (ps_if (pt_cmpR (r := rEqA K) (op_eqA hr) (pe_ix (r := rIx K) ix_seq (pv 1) pe_int (fun _ _ => rfl)) pe_str (nomark _)) (pss_one (ps_ret (pe_tup pa_nil))) pss_nil)
    (pss_cons (ps_if (pt_cmpR (r := rEqA K) (op_eqA hr) (pe_ix (r := rIx K) ix_seq (pv 1) pe_int (fun _ _ => rfl)) pe_str (nomark _)) (pss_one (ps_ret (pe_callG G__law_whole ng hr (by rfl) D__law_whole.m D__law_whole.F.kp D__law_whole.b .nil (pa_cons (pv 0) pa_nil)))) pss_nil)
    (pss_cons (ps_if (pt_cmpR (r := rEqA K) (op_eqA hr) (pe_ix (r := rIx K) ix_seq (pv 1) pe_int (fun _ _ => rfl)) pe_str (nomark _)) (pss_cons (ps_set (i := 2) sc__law_value.nd rfl (.inl rfl) (pe_callG G__law_value ng hr (by rfl) D__law_value.m D__law_value.F.kp D__law_value.b .nil (pa_cons (pv 0) (pa_cons (pe_ix (r := rIx K) ix_seq (pv 1) pe_int (fun _ _ => rfl)) pa_nil))))
    (pss_one (ps_ret (pe_tup (pa_cons pe_str (pa_cons (pv 2) (pa_cons (pe_callG G__law_value ng hr (by rfl) D__law_value.m D__law_value.F.kp D__law_value.b .nil (pa_cons (pv 0) (pa_cons (pe_ix (r := rIx K) ix_seq (pv 1) pe_int (fun _ _ => rfl)) pa_nil))) pa_nil))))))) pss_nil)
    (pss_cons (ps_if (pt_cmpR (r := rEqA K) (op_eqA hr) (pe_ix (r := rIx K) ix_seq (pv 1) pe_int (fun _ _ => rfl)) pe_str (nomark _)) (pss_cons (ps_set (i := 3) sc__law_value.nd rfl (.inl rfl) (pe_callG G__law_pull ng hr (by rfl) D__law_pull.m D__law_pull.F.kp D__law_pull.b .nil (pa_cons (pv 0) (pa_cons pe_int pa_nil))))
    (pss_one (ps_ret (pe_tup (pa_cons (pe_ix (r := rIx K) ix_seq (pe_tup (pa_cons pe_str (pa_cons pe_str pa_nil))) (pv 3) (fun _ _ => rfl)) (pa_cons (pe_callG G__law_value ng hr (by rfl) D__law_value.m D__law_value.F.kp D__law_value.b .nil (pa_cons (pv 0) (pa_cons (pe_ix (r := rIx K) ix_seq (pv 1) (pe_op (r := (rAdd K)) op_plus pe_int (pv 3)) (fun _ _ => rfl)) pa_nil))) pa_nil)))))) pss_nil)
    (pss_cons (ps_set (i := 4) sc__law_value.nd rfl (.inl rfl) (pe_lst pa_nil))
    (pss_cons (ps_for PassesOwn.never rfl (pi_range1 (by rfl) B.range (pa_cons (pe_callG G__law_pull ng hr (by rfl) D__law_pull.m D__law_pull.F.kp D__law_pull.b .nil (pa_cons (pv 0) (pa_cons pe_int pa_nil))) pa_nil)) (pg_name (i := 5) sc__law_value.nd rfl (.inl rfl)) (pss_one (ps_expr (pe_bm (r := rAppend) PySem.F.plainAttrs_list PySem.F.slot_list_append PySem.F.type_list_append mt_append (pv 4) (pa_cons (pe_tup (pa_cons (pe_callG G__law_value ng hr (by rfl) D__law_value.m D__law_value.F.kp D__law_value.b .nil (pa_cons (pv 0) (pa_cons (pe_ix (r := rIx K) ix_seq (pv 1) pe_int (fun _ _ => rfl)) pa_nil))) (pa_cons (pe_callG G__law_one ng hr (by rfl) D__law_one.m D__law_one.F.kp D__law_one.b .nil (pa_cons (pv 0) (pa_cons (pe_tup (pa_cons pe_int (pa_cons pe_int (pa_cons (pe_un un_neg pe_int) (pa_cons pe_int (pa_cons pe_int (pa_cons (pe_un un_neg pe_int) pa_nil))))))) pa_nil))) pa_nil))) pa_nil)))))
    (pss_one (ps_ret (pe_callG G__law_bag ng hr (by rfl) D__law_bag.m D__law_bag.F.kp D__law_bag.b .nil (pa_cons (pv 4) pa_nil)))))))))),
  (sv_seq (sv_if (tv_test (ev_op r2_eq (ev_op r2_ix (ev_var 1) ev_int) ev_str)) (sv_ret (ev_tup av_nil)) sv_next)
    (sv_seq (sv_if (tv_test (ev_op r2_eq (ev_op r2_ix (ev_var 1) ev_int) ev_str)) (sv_ret (ev_call (av_cons (ev_var 0) av_nil))) sv_next)
    (sv_seq (sv_if (tv_test (ev_op r2_eq (ev_op r2_ix (ev_var 1) ev_int) ev_str)) (sv_seq (sv_asg (ev_call (av_cons (ev_var 0) (av_cons (ev_op r2_ix (ev_var 1) ev_int) av_nil))) (gv_name (vs := [2]) (by decide)))
    (sv_ret (ev_tup (av_cons ev_str (av_cons (ev_var 2) (av_cons (ev_call (av_cons (ev_var 0) (av_cons (ev_op r2_ix (ev_var 1) ev_int) av_nil))) av_nil)))))) sv_next)
    (sv_seq (sv_if (tv_test (ev_op r2_eq (ev_op r2_ix (ev_var 1) ev_int) ev_str)) (sv_seq (sv_asg (ev_call (av_cons (ev_var 0) (av_cons ev_int av_nil))) (gv_name (vs := [3]) (by decide)))
    (sv_ret (ev_tup (av_cons (ev_op r2_ix (ev_tup (av_cons ev_str (av_cons ev_str av_nil))) (ev_var 3)) (av_cons (ev_call (av_cons (ev_var 0) (av_cons (ev_op r2_ix (ev_var 1) (ev_op r2_add ev_int (ev_var 3))) av_nil))) av_nil))))) sv_next)
    (sv_seq (sv_asg (ev_lstC av_nil) (gv_name (vs := [4]) (by decide)))
    (sv_seq (sv_for (iv_rng1 (av_cons (ev_call (av_cons (ev_var 0) (av_cons ev_int av_nil))) av_nil)) (gv_name (vs := [5]) (by decide)) (sv_drop (ev_app (ev_var 4) (av_cons (ev_tup (av_cons (ev_call (av_cons (ev_var 0) (av_cons (ev_op r2_ix (ev_var 1) ev_int) av_nil))) (av_cons (ev_call (av_cons (ev_var 0) (av_cons (ev_tup (av_cons ev_int (av_cons ev_int (av_cons (ev_un r1_neg ev_int) (av_cons ev_int (av_cons ev_int (av_cons (ev_un r1_neg ev_int) av_nil))))))) av_nil))) av_nil))) av_nil))))
    (sv_ret (ev_call (av_cons (ev_frz (ev_var 4)) av_nil)))))))))⟩
theorem ok__law_plus {n : Nat} (B : B0 mg) {f__law_bag : Addr} {fd__law_bag : FuncData} (D__law_bag : Dfn K mg "_law_bag" s__law_bag p__law_bag f__law_bag fd__law_bag) {f__law_plus : Addr} {fd__law_plus : FuncData} (D__law_plus : Dfn K mg "_law_plus" s__law_plus p__law_plus f__law_plus fd__law_plus) (G__law_bag : GOk P w K mg base n f__law_bag fd__law_bag p__law_bag (spM K 1 (m__law_bag n))) (G__law_plus : GOk P w K mg base n f__law_plus fd__law_plus p__law_plus (spM K 2 (m__law_plus n))) : GOk P w K mg base (n + 1) f__law_plus fd__law_plus p__law_plus (spM K 2 (m__law_plus (n + 1))) :=
  mkM D__law_plus.F sc__law_plus rfl rfl fun cdv A outer s H E ng hr => ⟨_, (pss_cons (ps_if (pt_not (pt_val (pe_callB (r := rIsi K) call_isi (by rfl) B.isinstance PyProof.Rows.boot_isinstance (pa_cons (pv 0) (pa_cons (pe_bltn (v := .ty "tuple") (by rfl) B.tuple (by decide +kernel) rfl) pa_nil))))) (pss_one (ps_ret (pe_op (r := (rAdd K)) op_plus (pv 0) (pv 1)))) pss_nil)
    (pss_cons (ps_if (PW.pt (pw_and (pt_cmpR (r := rNeA K) (op_neA hr) (pv 0) (pe_tup pa_nil) (nomark _)) (pw_and1 (pt_cmpR (r := rEqA K) (op_eqA hr) (pe_ix (r := rIx K) ix_seq (pv 0) pe_int (fun _ _ => rfl)) pe_str (nomark _))))) (pss_one (ps_ret (pe_tup (pa_cons pe_str (pa_cons (pe_callG G__law_plus ng hr (by rfl) D__law_plus.m D__law_plus.F.kp D__law_plus.b .nil (pa_cons (pe_ix (r := rIx K) ix_seq (pv 0) pe_int (fun _ _ => rfl)) (pa_cons (pe_ix (r := rIx K) ix_seq (pv 1) pe_int (fun _ _ => rfl)) pa_nil))) (pa_cons (pe_callG G__law_plus ng hr (by rfl) D__law_plus.m D__law_plus.F.kp D__law_plus.b .nil (pa_cons (pe_ix (r := rIx K) ix_seq (pv 0) pe_int (fun _ _ => rfl)) (pa_cons (pe_ix (r := rIx K) ix_seq (pv 1) pe_int (fun _ _ => rfl)) pa_nil))) pa_nil)))))) pss_nil)
    (pss_one (ps_ret (pe_callG G__law_bag ng hr (by rfl) D__law_bag.m D__law_bag.F.kp D__law_bag.b .nil (pa_cons (pe_op (r := (rAdd K)) op_plus (pe_callTy (r := wListOf K) c_list (by rfl) B.list PyProof.Rows.boot_list (pa_cons (pv 0) pa_nil)) (pe_callTy (r := wListOf K) c_list (by rfl) B.list PyProof.Rows.boot_list (pa_cons (pv 1) pa_nil))) pa_nil)))))),
  (sv_seq (sv_if (tv_not (tv_val (ev_cb rn_isi (av_cons (ev_var 0) (av_cons ev_ty av_nil))))) (sv_ret (ev_op r2_add (ev_var 0) (ev_var 1))) sv_next)
    (sv_seq (sv_if (tv_and (tv_test (ev_op r2_ne (ev_var 0) (ev_tup av_nil))) (tv_test (ev_op r2_eq (ev_op r2_ix (ev_var 0) ev_int) ev_str))) (sv_ret (ev_tup (av_cons ev_str (av_cons (ev_call (av_cons (ev_op r2_ix (ev_var 0) ev_int) (av_cons (ev_op r2_ix (ev_var 1) ev_int) av_nil))) (av_cons (ev_call (av_cons (ev_op r2_ix (ev_var 0) ev_int) (av_cons (ev_op r2_ix (ev_var 1) ev_int) av_nil))) av_nil))))) sv_next)
    (sv_ret (ev_call (av_cons (ev_op r2_add (ev_cb rn_list (av_cons (ev_var 0) av_nil)) (ev_cb rn_list (av_cons (ev_var 1) av_nil))) av_nil)))))⟩
end
end N25
namespace N25
open PySem PySem.Spec PyProof.Rows L2 Z M
section
variable {P : Program} {w : World} {K : PySem.W.Frag} {mg : Str → Option Value} {base : Heap}
theorem ok__law_many {n : Nat} (B : B0 mg) {f__law_bag : Addr} {fd__law_bag : FuncData} (D__law_bag : Dfn K mg "_law_bag" s__law_bag p__law_bag f__law_bag fd__law_bag) {f__law_many : Addr} {fd__law_many : FuncData} (D__law_many : Dfn K mg "_law_many" s__law_many p__law_many f__law_many fd__law_many) (G__law_bag : GOk P w K mg base n f__law_bag fd__law_bag p__law_bag (spM K 1 (m__law_bag n))) (G__law_many : GOk P w K mg base n f__law_many fd__law_many p__law_many (spM K 2 (m__law_many n))) : GOk P w K mg base (n + 1) f__law_many fd__law_many p__law_many (spM K 2 (m__law_many (n + 1))) :=
  mkM D__law_many.F sc__law_many rfl rfl fun cdv A outer s H E ng hr => ⟨_, (pss_cons (ps_if (pt_not (pt_val (pe_callB (r := rIsi K) call_isi (by rfl) B.isinstance PyProof.Rows.boot_isinstance (pa_cons (pv 1) (pa_cons (pe_bltn (v := .ty "tuple") (by rfl) B.tuple (by decide +kernel) rfl) pa_nil))))) (pss_one (ps_ret (pe_op (r := (rMul K)) op_star (pv 0) (pv 1)))) pss_nil)
    (pss_cons (ps_if (PW.pt (pw_and (pt_cmpR (r := rNeA K) (op_neA hr) (pv 1) (pe_tup pa_nil) (nomark _)) (pw_and1 (pt_cmpR (r := rEqA K) (op_eqA hr) (pe_ix (r := rIx K) ix_seq (pv 1) pe_int (fun _ _ => rfl)) pe_str (nomark _))))) (pss_one (ps_ret (pe_tup (pa_cons pe_str (pa_cons (pe_callG G__law_many ng hr (by rfl) D__law_many.m D__law_many.F.kp D__law_many.b .nil (pa_cons (pv 0) (pa_cons (pe_ix (r := rIx K) ix_seq (pv 1) pe_int (fun _ _ => rfl)) pa_nil))) (pa_cons (pe_callG G__law_many ng hr (by rfl) D__law_many.m D__law_many.F.kp D__law_many.b .nil (pa_cons (pv 0) (pa_cons (pe_ix (r := rIx K) ix_seq (pv 1) pe_int (fun _ _ => rfl)) pa_nil))) pa_nil)))))) pss_nil)
    (pss_one (ps_ret (pe_callG G__law_bag ng hr (by rfl) D__law_bag.m D__law_bag.F.kp D__law_bag.b .nil (pa_cons (pe_lc (own := [("_law_value_here", 2), ("_law_times", 3)]) (g := (gTup K 2 (gCons (gName 2) (gCons (gName 3) gNil)))) (tt := tYes) (by rfl) sc__law_many.nd (pi_any (pv 1)) (blkOk_by (own := [("_law_value_here", 2), ("_law_times", 3)]) (N := n__law_many) (sc := defScope s__law_many) (by decide +kernel)) (fun _ _ _ _ _ => (pg_tup (by rfl) (pgs_cons (pg_name (i := 2) sc__law_many.nd rfl (.inl rfl)) (pgs_cons (pg_name (i := 3) sc__law_many.nd rfl (.inl rfl)) pgs_nil)))) (fun _ _ _ _ _ => pts_nil) (fun _ _ _ _ _ => (pe_tup (pa_cons (pv 2) (pa_cons (pe_op (r := (rMul K)) op_star (pv 0) (pv 3)) pa_nil))))) pa_nil)))))),
  (sv_seq (sv_if (tv_not (tv_val (ev_cb rn_isi (av_cons (ev_var 1) (av_cons ev_ty av_nil))))) (sv_ret (ev_op r2_mul (ev_var 0) (ev_var 1))) sv_next)
    (sv_seq (sv_if (tv_and (tv_test (ev_op r2_ne (ev_var 1) (ev_tup av_nil))) (tv_test (ev_op r2_eq (ev_op r2_ix (ev_var 1) ev_int) ev_str))) (sv_ret (ev_tup (av_cons ev_str (av_cons (ev_call (av_cons (ev_var 0) (av_cons (ev_op r2_ix (ev_var 1) ev_int) av_nil))) (av_cons (ev_call (av_cons (ev_var 0) (av_cons (ev_op r2_ix (ev_var 1) ev_int) av_nil))) av_nil))))) sv_next)
    (sv_ret (ev_call (av_cons (ev_lc (iv_any (ev_var 1)) (gv_tup (gsv_cons (gv_name (vs := [2, 3]) (by decide)) (gsv_cons (gv_name (vs := [2, 3]) (by decide)) gsv_nil))) tv_yes (ev_tup (av_cons (ev_var 2) (av_cons (ev_op r2_mul (ev_var 0) (ev_var 3)) av_nil)))) av_nil)))))⟩
theorem ok__law_led {n : Nat} (B : B0 mg) {f__law_led : Addr} {fd__law_led : FuncData} (D__law_led : Dfn K mg "_law_led" s__law_led p__law_led f__law_led fd__law_led) {f__law_plus : Addr} {fd__law_plus : FuncData} (D__law_plus : Dfn K mg "_law_plus" s__law_plus p__law_plus f__law_plus fd__law_plus) (G__law_led : GOk P w K mg base n f__law_led fd__law_led p__law_led (spM K 3 (m__law_led n))) (G__law_plus : GOk P w K mg base n f__law_plus fd__law_plus p__law_plus (spM K 2 (m__law_plus n))) : GOk P w K mg base (n + 1) f__law_led fd__law_led p__law_led (spM K 3 (m__law_led (n + 1))) :=
  mkM D__law_led.F sc__law_led rfl rfl fun cdv A outer s H E ng hr => ⟨_, (pss_cons (ps_if (pt_cmpR (r := rEqA K) (op_eqA hr) (pe_ix (r := rIx K) ix_seq (pv 0) pe_int (fun _ _ => rfl)) pe_str (nomark _)) (pss_one (ps_ret (pe_tup pa_nil))) pss_nil)
    (pss_cons (ps_if (pt_cmpR (r := rIn K false) op_in_seq (pe_ix (r := rIx K) ix_seq (pv 0) pe_int (fun _ _ => rfl)) (pe_tup (pa_cons pe_str (pa_cons pe_str pa_nil))) (by rfl)) (pss_one (ps_ret (pe_callG G__law_plus ng hr (by rfl) D__law_plus.m D__law_plus.F.kp D__law_plus.b .nil (pa_cons (pv 1) (pa_cons (pv 2) pa_nil))))) pss_nil)
    (pss_cons (ps_if (pt_cmpR (r := rEqA K) (op_eqA hr) (pe_ix (r := rIx K) ix_seq (pv 0) pe_int (fun _ _ => rfl)) pe_str (nomark _)) (pss_one (ps_ret (pe_tup (pa_cons pe_str (pa_cons (pe_callG G__law_led ng hr (by rfl) D__law_led.m D__law_led.F.kp D__law_led.b .nil (pa_cons (pe_ix (r := rIx K) ix_seq (pv 0) pe_int (fun _ _ => rfl)) (pa_cons (pe_ix (r := rIx K) ix_seq (pv 1) pe_int (fun _ _ => rfl)) (pa_cons (pe_ix (r := rIx K) ix_seq (pv 2) pe_int (fun _ _ => rfl)) pa_nil)))) (pa_cons (pe_callG G__law_led ng hr (by rfl) D__law_led.m D__law_led.F.kp D__law_led.b .nil (pa_cons (pe_ix (r := rIx K) ix_seq (pv 0) pe_int (fun _ _ => rfl)) (pa_cons (pe_ix (r := rIx K) ix_seq (pv 1) pe_int (fun _ _ => rfl)) (pa_cons (pe_ix (r := rIx K) ix_seq (pv 2) pe_int (fun _ _ => rfl)) pa_nil)))) pa_nil)))))) pss_nil)
    (pss_cons (ps_if (pt_cmpR (r := rEqA K) (op_eqA hr) (pe_ix (r := rIx K) ix_seq (pv 2) pe_int (fun _ _ => rfl)) pe_str (nomark _)) (pss_one (ps_ret (pe_ix (r := rIx K) ix_seq (pv 2) pe_int (fun _ _ => rfl)))) pss_nil)
    (pss_cons (ps_if (pt_cmpR (r := rNeA K) (op_neA hr) (pe_ix (r := rIx K) ix_seq (pe_ix (r := rIx K) ix_seq (pv 2) pe_int (fun _ _ => rfl)) pe_int (fun _ _ => rfl)) (pe_ix (r := rIx K) ix_seq (pv 1) pe_int (fun _ _ => rfl)) (nomark _)) (pss_one (ps_ret (pv 1))) pss_nil)
    (pss_one (ps_ret (pe_tup (pa_cons (pe_ix (r := rIx K) ix_seq (pv 1) pe_int (fun _ _ => rfl)) (pa_cons (pe_callG G__law_led ng hr (by rfl) D__law_led.m D__law_led.F.kp D__law_led.b .nil (pa_cons (pe_ix (r := rIx K) ix_seq (pv 0) (pe_ifExp (pt_cmpR (r := rEqA K) (op_eqA hr) (pe_ix (r := rIx K) ix_seq (pv 1) pe_int (fun _ _ => rfl)) pe_str (nomark _)) pe_int pe_int) (fun _ _ => rfl)) (pa_cons (pe_ix (r := rIx K) ix_seq (pv 1) pe_int (fun _ _ => rfl)) (pa_cons (pe_ix (r := rIx K) ix_seq (pe_ix (r := rIx K) ix_seq (pv 2) pe_int (fun _ _ => rfl)) pe_int (fun _ _ => rfl)) pa_nil)))) pa_nil)))))))))),
  (sv_seq (sv_if (tv_test (ev_op r2_eq (ev_op r2_ix (ev_var 0) ev_int) ev_str)) (sv_ret (ev_tup av_nil)) sv_next)
    (sv_seq (sv_if (tv_test (ev_op r2_in (ev_op r2_ix (ev_var 0) ev_int) (ev_tup (av_cons ev_str (av_cons ev_str av_nil))))) (sv_ret (ev_call (av_cons (ev_var 1) (av_cons (ev_var 2) av_nil)))) sv_next)
    (sv_seq (sv_if (tv_test (ev_op r2_eq (ev_op r2_ix (ev_var 0) ev_int) ev_str)) (sv_ret (ev_tup (av_cons ev_str (av_cons (ev_call (av_cons (ev_op r2_ix (ev_var 0) ev_int) (av_cons (ev_op r2_ix (ev_var 1) ev_int) (av_cons (ev_op r2_ix (ev_var 2) ev_int) av_nil)))) (av_cons (ev_call (av_cons (ev_op r2_ix (ev_var 0) ev_int) (av_cons (ev_op r2_ix (ev_var 1) ev_int) (av_cons (ev_op r2_ix (ev_var 2) ev_int) av_nil)))) av_nil))))) sv_next)
    (sv_seq (sv_if (tv_test (ev_op r2_eq (ev_op r2_ix (ev_var 2) ev_int) ev_str)) (sv_ret (ev_op r2_ix (ev_var 2) ev_int)) sv_next)
    (sv_seq (sv_if (tv_test (ev_op r2_ne (ev_op r2_ix (ev_op r2_ix (ev_var 2) ev_int) ev_int) (ev_op r2_ix (ev_var 1) ev_int))) (sv_ret (ev_var 1)) sv_next)
    (sv_ret (ev_tup (av_cons (ev_op r2_ix (ev_var 1) ev_int) (av_cons (ev_call (av_cons (ev_op r2_ix (ev_var 0) (ev_if (tv_test (ev_op r2_eq (ev_op r2_ix (ev_var 1) ev_int) ev_str)) ev_int ev_int)) (av_cons (ev_op r2_ix (ev_var 1) ev_int) (av_cons (ev_op r2_ix (ev_op r2_ix (ev_var 2) ev_int) ev_int) av_nil)))) av_nil)))))))))⟩
theorem ok__law_less {n : Nat} (B : B0 mg) {f__law_less : Addr} {fd__law_less : FuncData} (D__law_less : Dfn K mg "_law_less" s__law_less p__law_less f__law_less fd__law_less) {f__law_many : Addr} {fd__law_many : FuncData} (D__law_many : Dfn K mg "_law_many" s__law_many p__law_many f__law_many fd__law_many) {f__law_plus : Addr} {fd__law_plus : FuncData} (D__law_plus : Dfn K mg "_law_plus" s__law_plus p__law_plus f__law_plus fd__law_plus) (G__law_less : GOk P w K mg base n f__law_less fd__law_less p__law_less (spM K 3 (m__law_less n))) (G__law_many : GOk P w K mg base n f__law_many fd__law_many p__law_many (spM K 2 (m__law_many n))) (G__law_plus : GOk P w K mg base n f__law_plus fd__law_plus p__law_plus (spM K 2 (m__law_plus n))) : GOk P w K mg base (n + 1) f__law_less fd__law_less p__law_less (spM K 3 (m__law_less (n + 1))) :=
  mkM D__law_less.F sc__law_less rfl rfl fun cdv A outer s H E ng hr => ⟨_, (pss_cons (ps_if (pt_cmpR (r := rEqA K) (op_eqA hr) (pe_ix (r := rIx K) ix_seq (pv 0) pe_int (fun _ _ => rfl)) pe_str (nomark _)) (pss_one (ps_ret (pe_tup pa_nil))) pss_nil)
    (pss_cons (ps_if (pt_cmpR (r := rIn K false) op_in_seq (pe_ix (r := rIx K) ix_seq (pv 0) pe_int (fun _ _ => rfl)) (pe_tup (pa_cons pe_str (pa_cons pe_str pa_nil))) (by rfl)) (pss_one (ps_ret (pe_callG G__law_plus ng hr (by rfl) D__law_plus.m D__law_plus.F.kp D__law_plus.b .nil (pa_cons (pv 1) (pa_cons (pe_callG G__law_many ng hr (by rfl) D__law_many.m D__law_many.F.kp D__law_many.b .nil (pa_cons (pe_un un_neg pe_int) (pa_cons (pv 2) pa_nil))) pa_nil))))) pss_nil)
    (pss_cons (ps_if (pt_cmpR (r := rEqA K) (op_eqA hr) (pe_ix (r := rIx K) ix_seq (pv 0) pe_int (fun _ _ => rfl)) pe_str (nomark _)) (pss_one (ps_ret (pe_tup (pa_cons pe_str (pa_cons (pe_callG G__law_less ng hr (by rfl) D__law_less.m D__law_less.F.kp D__law_less.b .nil (pa_cons (pe_ix (r := rIx K) ix_seq (pv 0) pe_int (fun _ _ => rfl)) (pa_cons (pe_ix (r := rIx K) ix_seq (pv 1) pe_int (fun _ _ => rfl)) (pa_cons (pe_ix (r := rIx K) ix_seq (pv 2) pe_int (fun _ _ => rfl)) pa_nil)))) (pa_cons (pe_callG G__law_less ng hr (by rfl) D__law_less.m D__law_less.F.kp D__law_less.b .nil (pa_cons (pe_ix (r := rIx K) ix_seq (pv 0) pe_int (fun _ _ => rfl)) (pa_cons (pe_ix (r := rIx K) ix_seq (pv 1) pe_int (fun _ _ => rfl)) (pa_cons (pe_ix (r := rIx K) ix_seq (pv 2) pe_int (fun _ _ => rfl)) pa_nil)))) pa_nil)))))) pss_nil)
    (pss_cons (ps_if (pt_cmpR (r := rNeA K) (op_neA hr) (pe_ix (r := rIx K) ix_seq (pv 1) pe_int (fun _ _ => rfl)) (pe_ix (r := rIx K) ix_seq (pv 2) pe_int (fun _ _ => rfl)) (nomark _)) (pss_one (ps_ret (pe_tup (pa_cons pe_str (pa_cons (pv 1) pa_nil))))) pss_nil)
    (pss_one (ps_ret (pe_tup (pa_cons pe_str (pa_cons (pe_tup (pa_cons (pe_ix (r := rIx K) ix_seq (pv 1) pe_int (fun _ _ => rfl)) (pa_cons (pe_callG G__law_less ng hr (by rfl) D__law_less.m D__law_less.F.kp D__law_less.b .nil (pa_cons (pe_ix (r := rIx K) ix_seq (pv 0) (pe_ifExp (pt_cmpR (r := rEqA K) (op_eqA hr) (pe_ix (r := rIx K) ix_seq (pv 1) pe_int (fun _ _ => rfl)) pe_str (nomark _)) pe_int pe_int) (fun _ _ => rfl)) (pa_cons (pe_ix (r := rIx K) ix_seq (pv 1) pe_int (fun _ _ => rfl)) (pa_cons (pe_ix (r := rIx K) ix_seq (pv 2) pe_int (fun _ _ => rfl)) pa_nil)))) pa_nil))) pa_nil))))))))),
  (sv_seq (sv_if (tv_test (ev_op r2_eq (ev_op r2_ix (ev_var 0) ev_int) ev_str)) (sv_ret (ev_tup av_nil)) sv_next)
    (sv_seq (sv_if (tv_test (ev_op r2_in (ev_op r2_ix (ev_var 0) ev_int) (ev_tup (av_cons ev_str (av_cons ev_str av_nil))))) (sv_ret (ev_call (av_cons (ev_var 1) (av_cons (ev_call (av_cons (ev_un r1_neg ev_int) (av_cons (ev_var 2) av_nil))) av_nil)))) sv_next)
    (sv_seq (sv_if (tv_test (ev_op r2_eq (ev_op r2_ix (ev_var 0) ev_int) ev_str)) (sv_ret (ev_tup (av_cons ev_str (av_cons (ev_call (av_cons (ev_op r2_ix (ev_var 0) ev_int) (av_cons (ev_op r2_ix (ev_var 1) ev_int) (av_cons (ev_op r2_ix (ev_var 2) ev_int) av_nil)))) (av_cons (ev_call (av_cons (ev_op r2_ix (ev_var 0) ev_int) (av_cons (ev_op r2_ix (ev_var 1) ev_int) (av_cons (ev_op r2_ix (ev_var 2) ev_int) av_nil)))) av_nil))))) sv_next)
    (sv_seq (sv_if (tv_test (ev_op r2_ne (ev_op r2_ix (ev_var 1) ev_int) (ev_op r2_ix (ev_var 2) ev_int))) (sv_ret (ev_tup (av_cons ev_str (av_cons (ev_var 1) av_nil)))) sv_next)
    (sv_ret (ev_tup (av_cons ev_str (av_cons (ev_tup (av_cons (ev_op r2_ix (ev_var 1) ev_int) (av_cons (ev_call (av_cons (ev_op r2_ix (ev_var 0) (ev_if (tv_test (ev_op r2_eq (ev_op r2_ix (ev_var 1) ev_int) ev_str)) ev_int ev_int)) (av_cons (ev_op r2_ix (ev_var 1) ev_int) (av_cons (ev_op r2_ix (ev_var 2) ev_int) av_nil)))) av_nil))) av_nil))))))))⟩
theorem ok__law_joined {n : Nat} (B : B0 mg) {f__law_joined : Addr} {fd__law_joined : FuncData} (D__law_joined : Dfn K mg "_law_joined" s__law_joined p__law_joined f__law_joined fd__law_joined) {f__law_led : Addr} {fd__law_led : FuncData} (D__law_led : Dfn K mg "_law_led" s__law_led p__law_led f__law_led fd__law_led) {f__law_plus : Addr} {fd__law_plus : FuncData} (D__law_plus : Dfn K mg "_law_plus" s__law_plus p__law_plus f__law_plus fd__law_plus) (G__law_joined : GOk P w K mg base n f__law_joined fd__law_joined p__law_joined (spM K 3 (m__law_joined n))) (G__law_led : GOk P w K mg base n f__law_led fd__law_led p__law_led (spM K 3 (m__law_led n))) (G__law_plus : GOk P w K mg base n f__law_plus fd__law_plus p__law_plus (spM K 2 (m__law_plus n))) : GOk P w K mg base (n + 1) f__law_joined fd__law_joined p__law_joined (spM K 3 (m__law_joined (n + 1))) :=
  mkM D__law_joined.F sc__law_joined rfl rfl fun cdv A outer s H E ng hr => ⟨_, (pss_cons (ps_if (pt_cmpR (r := rEqA K) (op_eqA hr) (pe_ix (r := rIx K) ix_seq (pv 0) pe_int (fun _ _ => rfl)) pe_str (nomark _)) (pss_one (ps_ret (pe_tup pa_nil))) pss_nil)
    (pss_cons (ps_if (pt_cmpR (r := rIn K false) op_in_seq (pe_ix (r := rIx K) ix_seq (pv 0) pe_int (fun _ _ => rfl)) (pe_tup (pa_cons pe_str (pa_cons pe_str pa_nil))) (by rfl)) (pss_one (ps_ret (pe_callG G__law_plus ng hr (by rfl) D__law_plus.m D__law_plus.F.kp D__law_plus.b .nil (pa_cons (pv 1) (pa_cons (pv 2) pa_nil))))) pss_nil)
    (pss_cons (ps_if (pt_cmpR (r := rEqA K) (op_eqA hr) (pe_ix (r := rIx K) ix_seq (pv 0) pe_int (fun _ _ => rfl)) pe_str (nomark _)) (pss_one (ps_ret (pe_tup (pa_cons pe_str (pa_cons (pe_callG G__law_joined ng hr (by rfl) D__law_joined.m D__law_joined.F.kp D__law_joined.b .nil (pa_cons (pe_ix (r := rIx K) ix_seq (pv 0) pe_int (fun _ _ => rfl)) (pa_cons (pe_ix (r := rIx K) ix_seq (pv 1) pe_int (fun _ _ => rfl)) (pa_cons (pe_ix (r := rIx K) ix_seq (pv 2) pe_int (fun _ _ => rfl)) pa_nil)))) (pa_cons (pe_callG G__law_joined ng hr (by rfl) D__law_joined.m D__law_joined.F.kp D__law_joined.b .nil (pa_cons (pe_ix (r := rIx K) ix_seq (pv 0) pe_int (fun _ _ => rfl)) (pa_cons (pe_ix (r := rIx K) ix_seq (pv 1) pe_int (fun _ _ => rfl)) (pa_cons (pe_ix (r := rIx K) ix_seq (pv 2) pe_int (fun _ _ => rfl)) pa_nil)))) pa_nil)))))) pss_nil)
    (pss_cons (ps_if (pt_cmpR (r := rEqA K) (op_eqA hr) (pe_ix (r := rIx K) ix_seq (pv 2) pe_int (fun _ _ => rfl)) pe_str (nomark _)) (pss_one (ps_ret (pv 2))) pss_nil)
    (pss_cons (ps_if (pt_cmpR (r := rEqA K) (op_eqA hr) (pe_ix (r := rIx K) ix_seq (pv 1) pe_int (fun _ _ => rfl)) pe_str (nomark _)) (pss_one (ps_ret (pe_tup (pa_cons pe_str (pa_cons (pe_callG G__law_led ng hr (by rfl) D__law_led.m D__law_led.F.kp D__law_led.b .nil (pa_cons (pv 0) (pa_cons (pe_ix (r := rIx K) ix_seq (pv 1) pe_int (fun _ _ => rfl)) (pa_cons (pv 2) pa_nil)))) pa_nil))))) pss_nil)
    (pss_cons (ps_set (i := 3) sc__law_joined.nd rfl (.inl rfl) (pe_ix (r := rIx K) ix_seq (pe_ix (r := rIx K) ix_seq (pv 1) pe_int (fun _ _ => rfl)) pe_int (fun _ _ => rfl)))
    (pss_one (ps_ret (pe_tup (pa_cons pe_str (pa_cons (pe_tup (pa_cons (pv 3) (pa_cons (pe_callG G__law_joined ng hr (by rfl) D__law_joined.m D__law_joined.F.kp D__law_joined.b .nil (pa_cons (pe_ix (r := rIx K) ix_seq (pv 0) (pe_ifExp (pt_cmpR (r := rEqA K) (op_eqA hr) (pv 3) pe_str (nomark _)) pe_int pe_int) (fun _ _ => rfl)) (pa_cons (pe_ix (r := rIx K) ix_seq (pe_ix (r := rIx K) ix_seq (pv 1) pe_int (fun _ _ => rfl)) pe_int (fun _ _ => rfl)) (pa_cons (pe_ix (r := rIx K) ix_seq (pe_ix (r := rIx K) ix_seq (pv 2) pe_int (fun _ _ => rfl)) pe_int (fun _ _ => rfl)) pa_nil)))) pa_nil))) pa_nil))))))))))),
  (sv_seq (sv_if (tv_test (ev_op r2_eq (ev_op r2_ix (ev_var 0) ev_int) ev_str)) (sv_ret (ev_tup av_nil)) sv_next)
    (sv_seq (sv_if (tv_test (ev_op r2_in (ev_op r2_ix (ev_var 0) ev_int) (ev_tup (av_cons ev_str (av_cons ev_str av_nil))))) (sv_ret (ev_call (av_cons (ev_var 1) (av_cons (ev_var 2) av_nil)))) sv_next)
    (sv_seq (sv_if (tv_test (ev_op r2_eq (ev_op r2_ix (ev_var 0) ev_int) ev_str)) (sv_ret (ev_tup (av_cons ev_str (av_cons (ev_call (av_cons (ev_op r2_ix (ev_var 0) ev_int) (av_cons (ev_op r2_ix (ev_var 1) ev_int) (av_cons (ev_op r2_ix (ev_var 2) ev_int) av_nil)))) (av_cons (ev_call (av_cons (ev_op r2_ix (ev_var 0) ev_int) (av_cons (ev_op r2_ix (ev_var 1) ev_int) (av_cons (ev_op r2_ix (ev_var 2) ev_int) av_nil)))) av_nil))))) sv_next)
    (sv_seq (sv_if (tv_test (ev_op r2_eq (ev_op r2_ix (ev_var 2) ev_int) ev_str)) (sv_ret (ev_var 2)) sv_next)
    (sv_seq (sv_if (tv_test (ev_op r2_eq (ev_op r2_ix (ev_var 1) ev_int) ev_str)) (sv_ret (ev_tup (av_cons ev_str (av_cons (ev_call (av_cons (ev_var 0) (av_cons (ev_op r2_ix (ev_var 1) ev_int) (av_cons (ev_var 2) av_nil)))) av_nil)))) sv_next)
    (sv_seq (sv_asg (ev_op r2_ix (ev_op r2_ix (ev_var 1) ev_int) ev_int) (gv_name (vs := [3]) (by decide)))
    (sv_ret (ev_tup (av_cons ev_str (av_cons (ev_tup (av_cons (ev_var 3) (av_cons (ev_call (av_cons (ev_op r2_ix (ev_var 0) (ev_if (tv_test (ev_op r2_eq (ev_var 3) ev_str)) ev_int ev_int)) (av_cons (ev_op r2_ix (ev_op r2_ix (ev_var 1) ev_int) ev_int) (av_cons (ev_op r2_ix (ev_op r2_ix (ev_var 2) ev_int) ev_int) av_nil)))) av_nil))) av_nil))))))))))⟩
theorem ok__law_change {n : Nat} (B : B0 mg) {f__law_change : Addr} {fd__law_change : FuncData} (D__law_change : Dfn K mg "_law_change" s__law_change p__law_change f__law_change fd__law_change) {f__law_one : Addr} {fd__law_one : FuncData} (D__law_one : Dfn K mg "_law_one" s__law_one p__law_one f__law_one fd__law_one) {f__law_pull : Addr} {fd__law_pull : FuncData} (D__law_pull : Dfn K mg "_law_pull" s__law_pull p__law_pull f__law_pull fd__law_pull) {f__law_value : Addr} {fd__law_value : FuncData} (D__law_value : Dfn K mg "_law_value" s__law_value p__law_value f__law_value fd__law_value) (G__law_change : GOk P w K mg base n f__law_change fd__law_change p__law_change (spM K 3 (m__law_change n))) (G__law_one : GOk P w K mg base n f__law_one fd__law_one p__law_one (spM K 2 (m__law_one n))) (G__law_pull : GOk P w K mg base n f__law_pull fd__law_pull p__law_pull (spM K 2 (m__law_pull n))) (G__law_value : GOk P w K mg base n f__law_value fd__law_value p__law_value (spM K 2 (m__law_value n))) : GOk P w K mg base (n + 1) f__law_change fd__law_change p__law_change (spM K 3 (m__law_change (n + 1))) :=
  mkM D__law_change.F sc__law_change rfl rfl fun cdv A outer s H E ng hr => ⟨_, (pss_cons (ps_if (pt_cmpR (r := rEqA K) (op_eqA hr) (pe_ix (r := rIx K) ix_seq (pv 1) pe_int (fun _ _ => rfl)) pe_str (nomark _)) (pss_cons (ps_set (i := 3) sc__law_change.nd rfl (.inl rfl) (pe_callG G__law_change ng hr (by rfl) D__law_change.m D__law_change.F.kp D__law_change.b .nil (pa_cons (pv 0) (pa_cons (pe_ix (r := rIx K) ix_seq (pv 1) pe_int (fun _ _ => rfl)) (pa_cons (pe_ix (r := rIx K) ix_seq (pv 2) pe_int (fun _ _ => rfl)) pa_nil)))))
    (pss_one (ps_ret (pe_tup (pa_cons pe_str (pa_cons (pv 3) (pa_cons (pe_callG G__law_change ng hr (by rfl) D__law_change.m D__law_change.F.kp D__law_change.b .nil (pa_cons (pv 0) (pa_cons (pe_ix (r := rIx K) ix_seq (pv 1) pe_int (fun _ _ => rfl)) (pa_cons (pe_ix (r := rIx K) ix_seq (pv 2) pe_int (fun _ _ => rfl)) pa_nil)))) pa_nil))))))) pss_nil)
    (pss_cons (ps_if (pt_cmpR (r := rNeA K) (op_neA hr) (pe_ix (r := rIx K) ix_seq (pv 1) pe_int (fun _ _ => rfl)) pe_str (nomark _)) (pss_one (ps_ret (pe_callG G__law_value ng hr (by rfl) D__law_value.m D__law_value.F.kp D__law_value.b .nil (pa_cons (pv 0) (pa_cons (pv 1) pa_nil))))) pss_nil)
    (pss_cons (ps_if (pt_cmpR (r := rEqA K) (op_eqA hr) (pe_callG G__law_pull ng hr (by rfl) D__law_pull.m D__law_pull.F.kp D__law_pull.b .nil (pa_cons (pv 0) (pa_cons pe_int pa_nil))) pe_int (nomark _)) (pss_cons (ps_set (i := 4) sc__law_change.nd rfl (.inl rfl) (pe_tup (pa_cons (pe_ix (r := rIx K) ix_seq (pv 2) pe_int (fun _ _ => rfl)) (pa_cons (pe_callG G__law_value ng hr (by rfl) D__law_value.m D__law_value.F.kp D__law_value.b .nil (pa_cons (pv 0) (pa_cons (pe_ix (r := rIx K) ix_seq (pv 1) (pe_ifExp (pt_cmpR (r := rEqA K) (op_eqA hr) (pe_ix (r := rIx K) ix_seq (pv 2) pe_int (fun _ _ => rfl)) pe_str (nomark _)) pe_int pe_int) (fun _ _ => rfl)) pa_nil))) pa_nil))))
    (pss_one (ps_ret (pe_tup (pa_cons pe_str (pa_cons (pe_callG G__law_one ng hr (by rfl) D__law_one.m D__law_one.F.kp D__law_one.b .nil (pa_cons (pv 0) (pa_cons (pe_tup (pa_cons (pe_callG G__law_value ng hr (by rfl) D__law_value.m D__law_value.F.kp D__law_value.b .nil (pa_cons (pv 0) (pa_cons (pv 1) pa_nil))) (pa_cons (pv 4) (pa_cons (pv 2) pa_nil)))) pa_nil))) pa_nil)))))) pss_nil)
    (pss_one (ps_ret (pe_tup (pa_cons pe_str (pa_cons (pe_tup (pa_cons (pe_ix (r := rIx K) ix_seq (pv 2) pe_int (fun _ _ => rfl)) (pa_cons (pe_callG G__law_change ng hr (by rfl) D__law_change.m D__law_change.F.kp D__law_change.b .nil (pa_cons (pv 0) (pa_cons (pe_ix (r := rIx K) ix_seq (pv 1) (pe_ifExp (pt_cmpR (r := rEqA K) (op_eqA hr) (pe_ix (r := rIx K) ix_seq (pv 2) pe_int (fun _ _ => rfl)) pe_str (nomark _)) pe_int pe_int) (fun _ _ => rfl)) (pa_cons (pe_ix (r := rIx K) ix_seq (pv 2) pe_int (fun _ _ => rfl)) pa_nil)))) pa_nil))) pa_nil)))))))),
  (sv_seq (sv_if (tv_test (ev_op r2_eq (ev_op r2_ix (ev_var 1) ev_int) ev_str)) (sv_seq (sv_asg (ev_call (av_cons (ev_var 0) (av_cons (ev_op r2_ix (ev_var 1) ev_int) (av_cons (ev_op r2_ix (ev_var 2) ev_int) av_nil)))) (gv_name (vs := [3]) (by decide)))
    (sv_ret (ev_tup (av_cons ev_str (av_cons (ev_var 3) (av_cons (ev_call (av_cons (ev_var 0) (av_cons (ev_op r2_ix (ev_var 1) ev_int) (av_cons (ev_op r2_ix (ev_var 2) ev_int) av_nil)))) av_nil)))))) sv_next)
    (sv_seq (sv_if (tv_test (ev_op r2_ne (ev_op r2_ix (ev_var 1) ev_int) ev_str)) (sv_ret (ev_call (av_cons (ev_var 0) (av_cons (ev_var 1) av_nil)))) sv_next)
    (sv_seq (sv_if (tv_test (ev_op r2_eq (ev_call (av_cons (ev_var 0) (av_cons ev_int av_nil))) ev_int)) (sv_seq (sv_asg (ev_tup (av_cons (ev_op r2_ix (ev_var 2) ev_int) (av_cons (ev_call (av_cons (ev_var 0) (av_cons (ev_op r2_ix (ev_var 1) (ev_if (tv_test (ev_op r2_eq (ev_op r2_ix (ev_var 2) ev_int) ev_str)) ev_int ev_int)) av_nil))) av_nil))) (gv_name (vs := [4]) (by decide)))
    (sv_ret (ev_tup (av_cons ev_str (av_cons (ev_call (av_cons (ev_var 0) (av_cons (ev_tup (av_cons (ev_call (av_cons (ev_var 0) (av_cons (ev_var 1) av_nil))) (av_cons (ev_var 4) (av_cons (ev_var 2) av_nil)))) av_nil))) av_nil))))) sv_next)
    (sv_ret (ev_tup (av_cons ev_str (av_cons (ev_tup (av_cons (ev_op r2_ix (ev_var 2) ev_int) (av_cons (ev_call (av_cons (ev_var 0) (av_cons (ev_op r2_ix (ev_var 1) (ev_if (tv_test (ev_op r2_eq (ev_op r2_ix (ev_var 2) ev_int) ev_str)) ev_int ev_int)) (av_cons (ev_op r2_ix (ev_var 2) ev_int) av_nil)))) av_nil))) av_nil)))))))⟩
theorem ok__law_right {n : Nat} (B : B0 mg) {f__law_change : Addr} {fd__law_change : FuncData} (D__law_change : Dfn K mg "_law_change" s__law_change p__law_change f__law_change fd__law_change) {f__law_data_kind : Addr} {fd__law_data_kind : FuncData} (D__law_data_kind : Dfn K mg "_law_data_kind" s__law_data_kind p__law_data_kind f__law_data_kind fd__law_data_kind) {f__law_is : Addr} {fd__law_is : FuncData} (D__law_is : Dfn K mg "_law_is" s__law_is p__law_is f__law_is fd__law_is) {f__law_joined : Addr} {fd__law_joined : FuncData} (D__law_joined : Dfn K mg "_law_joined" s__law_joined p__law_joined f__law_joined fd__law_joined) {f__law_led : Addr} {fd__law_led : FuncData} (D__law_led : Dfn K mg "_law_led" s__law_led p__law_led f__law_led fd__law_led) {f__law_less : Addr} {fd__law_less : FuncData} (D__law_less : Dfn K mg "_law_less" s__law_less p__law_less f__law_less fd__law_less) {f__law_right : Addr} {fd__law_right : FuncData} (D__law_right : Dfn K mg "_law_right" s__law_right p__law_right f__law_right fd__law_right) {f__law_value : Addr} {fd__law_value : FuncData} (D__law_value : Dfn K mg "_law_value" s__law_value p__law_value f__law_value fd__law_value) {f_back : Addr} {fd_back : FuncData} (D_back : Dfn K mg "back" s_back p_back f_back fd_back) {f_changes_nothing : Addr} {fd_changes_nothing : FuncData} (D_changes_nothing : Dfn K mg "changes_nothing" s_changes_nothing p_changes_nothing f_changes_nothing fd_changes_nothing) {f_fits : Addr} {fd_fits : FuncData} (D_fits : Dfn K mg "fits" s_fits p_fits f_fits fd_fits) {f_joined : Addr} {fd_joined : FuncData} (D_joined : Dfn K mg "joined" s_joined p_joined f_joined fd_joined) {f_led : Addr} {fd_led : FuncData} (D_led : Dfn K mg "led" s_led p_led f_led fd_led) {f_nothing : Addr} {fd_nothing : FuncData} (D_nothing : Dfn K mg "nothing" s_nothing p_nothing f_nothing fd_nothing) (G__law_change : GOk P w K mg base n f__law_change fd__law_change p__law_change (spM K 3 (m__law_change n))) (G__law_data_kind : GOk P w K mg base n f__law_data_kind fd__law_data_kind p__law_data_kind (spM K 2 (m__law_data_kind n))) (G__law_is : GOk P w K mg base n f__law_is fd__law_is p__law_is (spM K 2 (m__law_is n))) (G__law_joined : GOk P w K mg base n f__law_joined fd__law_joined p__law_joined (spM K 3 (m__law_joined n))) (G__law_led : GOk P w K mg base n f__law_led fd__law_led p__law_led (spM K 3 (m__law_led n))) (G__law_less : GOk P w K mg base n f__law_less fd__law_less p__law_less (spM K 3 (m__law_less n))) (G__law_value : GOk P w K mg base n f__law_value fd__law_value p__law_value (spM K 2 (m__law_value n))) (G_back : GOk P w K mg base n f_back fd_back p_back (spM K 3 (m_back n))) (G_changes_nothing : GOk P w K mg base n f_changes_nothing fd_changes_nothing p_changes_nothing (spM K 3 (m_changes_nothing n))) (G_fits : GOk P w K mg base n f_fits fd_fits p_fits (spM K 3 (m_fits n))) (G_joined : GOk P w K mg base n f_joined fd_joined p_joined (spM K 4 (m_joined n))) (G_led : GOk P w K mg base n f_led fd_led p_led (spM K 3 (m_led n))) (G_nothing : GOk P w K mg base n f_nothing fd_nothing p_nothing (spM K 2 (m_nothing n))) (KB_joined_3210 : KBinds K fd_joined p_joined ["two", "one", "value", "kind"] (pickG [3, 2, 1, 0] 4) (pickG [3, 2, 1, 0] 4)) (KB_back_210 : KBinds K fd_back p_back ["change", "value", "kind"] (pickG [2, 1, 0] 3) (pickG [2, 1, 0] 3)) : GOk P w K mg base (n + 1) f__law_right fd__law_right p__law_right (spM K 1 (m__law_right (n + 1))) :=
  mkM D__law_right.F sc__law_right rfl rfl fun cdv A outer s H E ng hr => ⟨_, (pss_cons (ps_for PassesOwn.never rfl (pi_range1 (by rfl) B.range (pa_cons pe_int pa_nil)) (pg_name (i := 1) sc__law_right.nd rfl (.inl rfl)) (pss_cons (ps_set (i := 2) sc__law_right.nd rfl (.inl rfl) (pe_ifExp (pt_cmpR (r := rI0 fun i j => .bl (decide (j < i))) op_gt (pv 1) pe_int (nomark _)) (pe_callG G__law_data_kind ng hr (by rfl) D__law_data_kind.m D__law_data_kind.F.kp D__law_data_kind.b .nil (pa_cons (pv 0) (pa_cons pe_int pa_nil))) (pe_tup (pa_cons pe_str (pa_cons (pe_callG G__law_data_kind ng hr (by rfl) D__law_data_kind.m D__law_data_kind.F.kp D__law_data_kind.b .nil (pa_cons (pv 0) (pa_cons pe_int pa_nil))) (pa_cons (pe_callG G__law_data_kind ng hr (by rfl) D__law_data_kind.m D__law_data_kind.F.kp D__law_data_kind.b .nil (pa_cons (pv 0) (pa_cons pe_int pa_nil))) pa_nil))))))
    (pss_cons (ps_set (i := 3) sc__law_right.nd rfl (.inl rfl) (pe_callG G__law_value ng hr (by rfl) D__law_value.m D__law_value.F.kp D__law_value.b .nil (pa_cons (pv 0) (pa_cons (pv 2) pa_nil))))
    (pss_cons (ps_set (i := 4) sc__law_right.nd rfl (.inl rfl) (pe_callG G__law_change ng hr (by rfl) D__law_change.m D__law_change.F.kp D__law_change.b .nil (pa_cons (pv 0) (pa_cons (pv 2) (pa_cons (pv 3) pa_nil)))))
    (pss_cons (ps_set (i := 5) sc__law_right.nd rfl (.inl rfl) (pe_callG G__law_led ng hr (by rfl) D__law_led.m D__law_led.F.kp D__law_led.b .nil (pa_cons (pv 2) (pa_cons (pv 3) (pa_cons (pv 4) pa_nil)))))
    (pss_cons (ps_set (i := 6) sc__law_right.nd rfl (.inl rfl) (pe_callG G__law_change ng hr (by rfl) D__law_change.m D__law_change.F.kp D__law_change.b .nil (pa_cons (pv 0) (pa_cons (pv 2) (pa_cons (pv 5) pa_nil)))))
    (pss_cons (ps_set (i := 7) sc__law_right.nd rfl (.inl rfl) (pe_callG G__law_led ng hr (by rfl) D__law_led.m D__law_led.F.kp D__law_led.b .nil (pa_cons (pv 2) (pa_cons (pv 5) (pa_cons (pv 6) pa_nil)))))
    (pss_cons (ps_set (i := 8) sc__law_right.nd rfl (.inl rfl) (pe_callG G__law_change ng hr (by rfl) D__law_change.m D__law_change.F.kp D__law_change.b .nil (pa_cons (pv 0) (pa_cons (pv 2) (pa_cons (pv 7) pa_nil)))))
    (pss_cons (ps_par (i := 9) (j := 10) (by rfl) sc__law_right.nd rfl rfl (by decide) rfl rfl (pa_cons (pe_callG G__law_joined ng hr (by rfl) D__law_joined.m D__law_joined.F.kp D__law_joined.b .nil (pa_cons (pv 2) (pa_cons (pv 4) (pa_cons (pv 6) pa_nil)))) (pa_cons (pe_callG G__law_joined ng hr (by rfl) D__law_joined.m D__law_joined.F.kp D__law_joined.b .nil (pa_cons (pv 2) (pa_cons (pv 6) (pa_cons (pv 8) pa_nil)))) pa_nil)) (by rfl))
    (pss_cons (ps_set (i := 11) sc__law_right.nd rfl (.inl rfl) (pe_lst (pa_cons (pe_callG G_joined ng hr (by rfl) D_joined.m D_joined.F.kp D_joined.b .nil (pa_cons (pv 2) (pa_cons (pv 3) (pa_cons (pv 4) (pa_cons (pv 6) pa_nil))))) (pa_cons (pe_callNG G_joined ng hr (by rfl) D_joined.m D_joined.F.kp KB_joined_3210 (pk_cons (pv 6) (pk_cons (pv 4) (pk_cons (pv 3) (pk_cons (pv 2) pk_nil))))) pa_nil))))
    (pss_cons (ps_if (pt_not (pt_val (pe_callG G__law_is ng hr (by rfl) D__law_is.m D__law_is.F.kp D__law_is.b .nil (pa_cons (pe_op (r := (rAdd K)) op_plus (pv 11) (pe_lst (pa_cons (pe_callG G_led ng hr (by rfl) D_led.m D_led.F.kp D_led.b .nil (pa_cons (pv 2) (pa_cons (pv 3) (pa_cons (pv 9) pa_nil)))) (pa_cons (pe_callG G_fits ng hr (by rfl) D_fits.m D_fits.F.kp D_fits.b .nil (pa_cons (pv 2) (pa_cons (pv 3) (pa_cons (pv 9) pa_nil)))) pa_nil)))) (pa_cons (pe_lst (pa_cons (pv 9) (pa_cons (pv 9) (pa_cons (pv 7) (pa_cons pe_bl pa_nil))))) pa_nil))))) (pss_one (ps_ret pe_bl)) pss_nil)
    (pss_cons (ps_set (i := 12) sc__law_right.nd rfl (.inl rfl) (pe_callG G__law_joined ng hr (by rfl) D__law_joined.m D__law_joined.F.kp D__law_joined.b .nil (pa_cons (pv 2) (pa_cons (pv 9) (pa_cons (pv 8) pa_nil)))))
    (pss_cons (ps_set (i := 11) sc__law_right.nd rfl (.inl rfl) (pe_lst (pa_cons (pe_callG G_joined ng hr (by rfl) D_joined.m D_joined.F.kp D_joined.b .nil (pa_cons (pv 2) (pa_cons (pv 3) (pa_cons (pv 9) (pa_cons (pv 8) pa_nil))))) (pa_cons (pe_callG G_joined ng hr (by rfl) D_joined.m D_joined.F.kp D_joined.b .nil (pa_cons (pv 2) (pa_cons (pv 3) (pa_cons (pv 4) (pa_cons (pe_callG G_joined ng hr (by rfl) D_joined.m D_joined.F.kp D_joined.b .nil (pa_cons (pv 2) (pa_cons (pv 5) (pa_cons (pv 6) (pa_cons (pv 8) pa_nil))))) pa_nil))))) pa_nil))))
    (pss_cons (ps_if (PW.pt (pw_or (pt_not (pt_val (pe_callG G__law_is ng hr (by rfl) D__law_is.m D__law_is.F.kp D__law_is.b .nil (pa_cons (pv 11) (pa_cons (pe_lst (pa_cons (pv 12) (pa_cons (pv 12) pa_nil))) pa_nil))))) (pw_or1 (pt_not (pt_val (pe_callG G__law_is ng hr (by rfl) D__law_is.m D__law_is.F.kp D__law_is.b .nil (pa_cons (pv 10) (pa_cons (pe_callG G_joined ng hr (by rfl) D_joined.m D_joined.F.kp D_joined.b .nil (pa_cons (pv 2) (pa_cons (pv 5) (pa_cons (pv 6) (pa_cons (pv 8) pa_nil))))) pa_nil)))))))) (pss_one (ps_ret pe_bl)) pss_nil)
    (pss_cons (ps_set (i := 11) sc__law_right.nd rfl (.inl rfl) (pe_lst (pa_cons (pe_callG G_joined ng hr (by rfl) D_joined.m D_joined.F.kp D_joined.b .nil (pa_cons (pv 2) (pa_cons (pv 3) (pa_cons (pe_callG G_nothing ng hr (by rfl) D_nothing.m D_nothing.F.kp D_nothing.b .nil (pa_cons (pv 2) (pa_cons (pv 3) pa_nil))) (pa_cons (pv 4) pa_nil))))) (pa_cons (pe_callG G_joined ng hr (by rfl) D_joined.m D_joined.F.kp D_joined.b .nil (pa_cons (pv 2) (pa_cons (pv 3) (pa_cons (pv 4) (pa_cons (pe_callG G_nothing ng hr (by rfl) D_nothing.m D_nothing.F.kp D_nothing.b .nil (pa_cons (pv 2) (pa_cons (pv 5) pa_nil))) pa_nil))))) pa_nil))))
    (pss_cons (ps_set (i := 13) sc__law_right.nd rfl (.inl rfl) (pe_callG G__law_less ng hr (by rfl) D__law_less.m D__law_less.F.kp D__law_less.b .nil (pa_cons (pv 2) (pa_cons (pv 3) (pa_cons (pv 5) pa_nil)))))
    (pss_cons (ps_set (i := 11) sc__law_right.nd rfl (.inl rfl) (pe_op (r := (rAdd K)) op_plus (pv 11) (pe_lst (pa_cons (pe_callG G_back ng hr (by rfl) D_back.m D_back.F.kp D_back.b .nil (pa_cons (pv 2) (pa_cons (pv 3) (pa_cons (pv 4) pa_nil)))) (pa_cons (pe_callNG G_back ng hr (by rfl) D_back.m D_back.F.kp KB_back_210 (pk_cons (pv 4) (pk_cons (pv 3) (pk_cons (pv 2) pk_nil)))) (pa_cons (pe_callG G_led ng hr (by rfl) D_led.m D_led.F.kp D_led.b .nil (pa_cons (pv 2) (pa_cons (pv 5) (pa_cons (pv 13) pa_nil)))) pa_nil))))))
    (pss_cons (ps_if (PW.pt (pw_or (pt_not (pt_val (pe_callG G__law_is ng hr (by rfl) D__law_is.m D__law_is.F.kp D__law_is.b .nil (pa_cons (pv 11) (pa_cons (pe_lst (pa_cons (pv 4) (pa_cons (pv 4) (pa_cons (pv 13) (pa_cons (pv 13) (pa_cons (pv 3) pa_nil)))))) pa_nil))))) (pw_or1 (pt_cmpR (r := rNoBl) op_noBv (pe_callG G_fits ng hr (by rfl) D_fits.m D_fits.F.kp D_fits.b .nil (pa_cons (pv 2) (pa_cons (pv 5) (pa_cons (pv 13) pa_nil)))) pe_bl (nomark _))))) (pss_one (ps_ret pe_bl)) pss_nil)
    (pss_one (ps_if (pt_cmpR (r := rNoBl) op_noBv (pe_callG G_changes_nothing ng hr (by rfl) D_changes_nothing.m D_changes_nothing.F.kp D_changes_nothing.b .nil (pa_cons (pv 2) (pa_cons (pv 3) (pa_cons (pe_callG G_joined ng hr (by rfl) D_joined.m D_joined.F.kp D_joined.b .nil (pa_cons (pv 2) (pa_cons (pv 3) (pa_cons (pv 4) (pa_cons (pe_callG G_back ng hr (by rfl) D_back.m D_back.F.kp D_back.b .nil (pa_cons (pv 2) (pa_cons (pv 3) (pa_cons (pv 4) pa_nil)))) pa_nil))))) pa_nil)))) pe_bl (nomark _)) (pss_one (ps_ret pe_bl)) pss_nil))))))))))))))))))))
    (pss_one (ps_ret pe_bl))),
  (sv_seq (sv_for (iv_rng1 (av_cons ev_int av_nil)) (gv_name (vs := [1]) (by decide)) (sv_seq (sv_asg (ev_if (tv_test (ev_op r2_gt (ev_var 1) ev_int)) (ev_call (av_cons (ev_var 0) (av_cons ev_int av_nil))) (ev_tup (av_cons ev_str (av_cons (ev_call (av_cons (ev_var 0) (av_cons ev_int av_nil))) (av_cons (ev_call (av_cons (ev_var 0) (av_cons ev_int av_nil))) av_nil))))) (gv_name (vs := [2]) (by decide)))
    (sv_seq (sv_asg (ev_call (av_cons (ev_var 0) (av_cons (ev_var 2) av_nil))) (gv_name (vs := [3]) (by decide)))
    (sv_seq (sv_asg (ev_call (av_cons (ev_var 0) (av_cons (ev_var 2) (av_cons (ev_var 3) av_nil)))) (gv_name (vs := [4]) (by decide)))
    (sv_seq (sv_asg (ev_call (av_cons (ev_var 2) (av_cons (ev_var 3) (av_cons (ev_var 4) av_nil)))) (gv_name (vs := [5]) (by decide)))
    (sv_seq (sv_asg (ev_call (av_cons (ev_var 0) (av_cons (ev_var 2) (av_cons (ev_var 5) av_nil)))) (gv_name (vs := [6]) (by decide)))
    (sv_seq (sv_asg (ev_call (av_cons (ev_var 2) (av_cons (ev_var 5) (av_cons (ev_var 6) av_nil)))) (gv_name (vs := [7]) (by decide)))
    (sv_seq (sv_asg (ev_call (av_cons (ev_var 0) (av_cons (ev_var 2) (av_cons (ev_var 7) av_nil)))) (gv_name (vs := [8]) (by decide)))
    (sv_seq (sv_par (av_cons (ev_call (av_cons (ev_var 2) (av_cons (ev_var 4) (av_cons (ev_var 6) av_nil)))) (av_cons (ev_call (av_cons (ev_var 2) (av_cons (ev_var 6) (av_cons (ev_var 8) av_nil)))) av_nil)))
    (sv_seq (sv_asg (ev_lst (av_cons (ev_call (av_cons (ev_var 2) (av_cons (ev_var 3) (av_cons (ev_var 4) (av_cons (ev_var 6) av_nil))))) (av_cons (ev_callN (perm := pickA [3, 2, 1, 0] 4) (pickA_ok _ _) (av_cons (ev_var 6) (av_cons (ev_var 4) (av_cons (ev_var 3) (av_cons (ev_var 2) av_nil))))) av_nil))) (gv_name (vs := [11]) (by decide)))
    (sv_seq (sv_if (tv_not (tv_val (ev_call (av_cons (ev_op r2_add (ev_var 11) (ev_lst (av_cons (ev_call (av_cons (ev_var 2) (av_cons (ev_var 3) (av_cons (ev_var 9) av_nil)))) (av_cons (ev_call (av_cons (ev_var 2) (av_cons (ev_var 3) (av_cons (ev_var 9) av_nil)))) av_nil)))) (av_cons (ev_lst (av_cons (ev_var 9) (av_cons (ev_var 9) (av_cons (ev_var 7) (av_cons ev_bl av_nil))))) av_nil))))) (sv_ret ev_bl) sv_next)
    (sv_seq (sv_asg (ev_call (av_cons (ev_var 2) (av_cons (ev_var 9) (av_cons (ev_var 8) av_nil)))) (gv_name (vs := [12]) (by decide)))
    (sv_seq (sv_asg (ev_lst (av_cons (ev_call (av_cons (ev_var 2) (av_cons (ev_var 3) (av_cons (ev_var 9) (av_cons (ev_var 8) av_nil))))) (av_cons (ev_call (av_cons (ev_var 2) (av_cons (ev_var 3) (av_cons (ev_var 4) (av_cons (ev_call (av_cons (ev_var 2) (av_cons (ev_var 5) (av_cons (ev_var 6) (av_cons (ev_var 8) av_nil))))) av_nil))))) av_nil))) (gv_name (vs := [11]) (by decide)))
    (sv_seq (sv_if (tv_or (tv_not (tv_val (ev_call (av_cons (ev_var 11) (av_cons (ev_lst (av_cons (ev_var 12) (av_cons (ev_var 12) av_nil))) av_nil))))) (tv_not (tv_val (ev_call (av_cons (ev_var 10) (av_cons (ev_call (av_cons (ev_var 2) (av_cons (ev_var 5) (av_cons (ev_var 6) (av_cons (ev_var 8) av_nil))))) av_nil)))))) (sv_ret ev_bl) sv_next)
    (sv_seq (sv_asg (ev_lst (av_cons (ev_call (av_cons (ev_var 2) (av_cons (ev_var 3) (av_cons (ev_call (av_cons (ev_var 2) (av_cons (ev_var 3) av_nil))) (av_cons (ev_var 4) av_nil))))) (av_cons (ev_call (av_cons (ev_var 2) (av_cons (ev_var 3) (av_cons (ev_var 4) (av_cons (ev_call (av_cons (ev_var 2) (av_cons (ev_var 5) av_nil))) av_nil))))) av_nil))) (gv_name (vs := [11]) (by decide)))
    (sv_seq (sv_asg (ev_call (av_cons (ev_var 2) (av_cons (ev_var 3) (av_cons (ev_var 5) av_nil)))) (gv_name (vs := [13]) (by decide)))
    (sv_seq (sv_asg (ev_op r2_add (ev_var 11) (ev_lst (av_cons (ev_call (av_cons (ev_var 2) (av_cons (ev_var 3) (av_cons (ev_var 4) av_nil)))) (av_cons (ev_callN (perm := pickA [2, 1, 0] 3) (pickA_ok _ _) (av_cons (ev_var 4) (av_cons (ev_var 3) (av_cons (ev_var 2) av_nil)))) (av_cons (ev_call (av_cons (ev_var 2) (av_cons (ev_var 5) (av_cons (ev_var 13) av_nil)))) av_nil))))) (gv_name (vs := [11]) (by decide)))
    (sv_seq (sv_if (tv_or (tv_not (tv_val (ev_call (av_cons (ev_var 11) (av_cons (ev_lst (av_cons (ev_var 4) (av_cons (ev_var 4) (av_cons (ev_var 13) (av_cons (ev_var 13) (av_cons (ev_var 3) av_nil)))))) av_nil))))) (tv_test (ev_op r2_noB (ev_call (av_cons (ev_var 2) (av_cons (ev_var 5) (av_cons (ev_var 13) av_nil)))) ev_bl))) (sv_ret ev_bl) sv_next)
    (sv_if (tv_test (ev_op r2_noB (ev_call (av_cons (ev_var 2) (av_cons (ev_var 3) (av_cons (ev_call (av_cons (ev_var 2) (av_cons (ev_var 3) (av_cons (ev_var 4) (av_cons (ev_call (av_cons (ev_var 2) (av_cons (ev_var 3) (av_cons (ev_var 4) av_nil)))) av_nil))))) av_nil)))) ev_bl)) (sv_ret ev_bl) sv_next)))))))))))))))))))
    (sv_ret ev_bl))⟩
end
end N25
namespace N25
open PySem PySem.Spec PyProof.Rows L2 Z M
section
variable {P : Program} {w : World} {K : PySem.W.Frag} {mg : Str → Option Value} {base : Heap}
theorem ok_law {n : Nat} (B : B0 mg) {f__law_right : Addr} {fd__law_right : FuncData} (D__law_right : Dfn K mg "_law_right" s__law_right p__law_right f__law_right fd__law_right) {f__law_urn : Addr} {fd__law_urn : FuncData} (D__law_urn : Dfn K mg "_law_urn" s__law_urn p__law_urn f__law_urn fd__law_urn) {f_law : Addr} {fd_law : FuncData} (D_law : Dfn K mg "law" s_law p_law f_law fd_law) (G__law_right : GOk P w K mg base n f__law_right fd__law_right p__law_right (spM K 1 (m__law_right n))) (G__law_urn : GOk P w K mg base n f__law_urn fd__law_urn p__law_urn (spM K 2 (m__law_urn n))) : GOk P w K mg base (n + 1) f_law fd_law p_law (spM K 1 (m_law (n + 1))) :=
  mkM D_law.F sc_law rfl rfl fun cdv A outer s H E ng hr => ⟨_, (pss_cons (ps_for PassesOwn.never rfl (pi_range1 (by rfl) B.range (pa_cons (pe_callB (c_max rfl) (by rfl) B.max PyProof.Rows.boot_max (pa_cons pe_int (pa_cons (pe_callB (c_min rfl) (by rfl) B.min PyProof.Rows.boot_min (pa_cons (pe_callB (r := M.rLen K) c_lenA (by rfl) B.len PySem.boot_len (pa_cons (pv 0) pa_nil)) (pa_cons pe_int pa_nil))) pa_nil))) pa_nil)) (pg_name (i := 1) sc_law.nd rfl (.inl rfl)) (pss_one (ps_if (pt_not (pt_val (pe_callG G__law_right ng hr (by rfl) D__law_right.m D__law_right.F.kp D__law_right.b .nil (pa_cons (pe_callG G__law_urn ng hr (by rfl) D__law_urn.m D__law_urn.F.kp D__law_urn.b .nil (pa_cons (pv 0) (pa_cons (pv 1) pa_nil))) pa_nil)))) (pss_one (ps_ret pe_bl)) pss_nil)))
    (pss_one (ps_ret pe_bl))),
  (sv_seq (sv_for (iv_rng1 (av_cons (ev_cb rn_max (av_cons ev_int (av_cons (ev_cb rn_min (av_cons (ev_cb rn_len (av_cons (ev_var 0) av_nil)) (av_cons ev_int av_nil))) av_nil))) av_nil)) (gv_name (vs := [1]) (by decide)) (sv_if (tv_not (tv_val (ev_call (av_cons (ev_call (av_cons (ev_var 0) (av_cons (ev_var 1) av_nil))) av_nil)))) (sv_ret ev_bl) sv_next))
    (sv_ret ev_bl))⟩
end
end N25
namespace N25
open PySem PySem.Spec PyProof.Rows L2 Z M
section
variable {P : Program} {w : World} {K : PySem.W.Frag} {mg : Str → Option Value} {base : Heap}
theorem all_ok (B : B0 mg) {f__has_form : Addr} {fd__has_form : FuncData} (D__has_form : Dfn K mg "_has_form" s__has_form p__has_form f__has_form fd__has_form) {f__is_made_of : Addr} {fd__is_made_of : FuncData} (D__is_made_of : Dfn K mg "_is_made_of" s__is_made_of p__is_made_of f__is_made_of fd__is_made_of) {f__is_kind_within : Addr} {fd__is_kind_within : FuncData} (D__is_kind_within : Dfn K mg "_is_kind_within" s__is_kind_within p__is_kind_within f__is_kind_within fd__is_kind_within) {f_is_kind : Addr} {fd_is_kind : FuncData} (D_is_kind : Dfn K mg "is_kind" s_is_kind p_is_kind f_is_kind fd_is_kind) {f_is_known_data : Addr} {fd_is_known_data : FuncData} (D_is_known_data : Dfn K mg "is_known_data" s_is_known_data p_is_known_data f_is_known_data fd_is_known_data) {f_is_data_kind : Addr} {fd_is_data_kind : FuncData} (D_is_data_kind : Dfn K mg "is_data_kind" s_is_data_kind p_is_data_kind f_is_data_kind fd_is_data_kind) {f_gathered : Addr} {fd_gathered : FuncData} (D_gathered : Dfn K mg "gathered" s_gathered p_gathered f_gathered fd_gathered) {f_plus_in : Addr} {fd_plus_in : FuncData} (D_plus_in : Dfn K mg "plus_in" s_plus_in p_plus_in f_plus_in fd_plus_in) {f__bag_times : Addr} {fd__bag_times : FuncData} (D__bag_times : Dfn K mg "_bag_times" s__bag_times p__bag_times f__bag_times fd__bag_times) {f_times_in : Addr} {fd_times_in : FuncData} (D_times_in : Dfn K mg "times_in" s_times_in p_times_in f_times_in fd_times_in) {f_kind_of_changes : Addr} {fd_kind_of_changes : FuncData} (D_kind_of_changes : Dfn K mg "kind_of_changes" s_kind_of_changes p_kind_of_changes f_kind_of_changes fd_kind_of_changes) {f__side_kind : Addr} {fd__side_kind : FuncData} (D__side_kind : Dfn K mg "_side_kind" s__side_kind p__side_kind f__side_kind fd__side_kind) {f_fits_in : Addr} {fd_fits_in : FuncData} (D_fits_in : Dfn K mg "fits_in" s_fits_in p_fits_in f_fits_in fd_fits_in) {f_led_in : Addr} {fd_led_in : FuncData} (D_led_in : Dfn K mg "led_in" s_led_in p_led_in f_led_in fd_led_in) {f__led_side : Addr} {fd__led_side : FuncData} (D__led_side : Dfn K mg "_led_side" s__led_side p__led_side f__led_side fd__led_side) {f_less_in : Addr} {fd_less_in : FuncData} (D_less_in : Dfn K mg "less_in" s_less_in p_less_in f_less_in fd_less_in) {f_joined_in : Addr} {fd_joined_in : FuncData} (D_joined_in : Dfn K mg "joined_in" s_joined_in p_joined_in f_joined_in fd_joined_in) {f__joined_sides : Addr} {fd__joined_sides : FuncData} (D__joined_sides : Dfn K mg "_joined_sides" s__joined_sides p__joined_sides f__joined_sides fd__joined_sides) {f_back_in : Addr} {fd_back_in : FuncData} (D_back_in : Dfn K mg "back_in" s_back_in p_back_in f_back_in fd_back_in) {f_is_whole : Addr} {fd_is_whole : FuncData} (D_is_whole : Dfn K mg "is_whole" s_is_whole p_is_whole f_is_whole fd_is_whole) {f__begins : Addr} {fd__begins : FuncData} (D__begins : Dfn K mg "_begins" s__begins p__begins f__begins fd__begins) {f_is_of : Addr} {fd_is_of : FuncData} (D_is_of : Dfn K mg "is_of" s_is_of p_is_of f_is_of fd_is_of) {f__is_bag : Addr} {fd__is_bag : FuncData} (D__is_bag : Dfn K mg "_is_bag" s__is_bag p__is_bag f__is_bag fd__is_bag) {f__is_counted : Addr} {fd__is_counted : FuncData} (D__is_counted : Dfn K mg "_is_counted" s__is_counted p__is_counted f__is_counted fd__is_counted) {f_check_value : Addr} {fd_check_value : FuncData} (D_check_value : Dfn K mg "check_value" s_check_value p_check_value f_check_value fd_check_value) {f__check_data_kind : Addr} {fd__check_data_kind : FuncData} (D__check_data_kind : Dfn K mg "_check_data_kind" s__check_data_kind p__check_data_kind f__check_data_kind fd__check_data_kind) {f__check_all : Addr} {fd__check_all : FuncData} (D__check_all : Dfn K mg "_check_all" s__check_all p__check_all f__check_all fd__check_all) {f_fits : Addr} {fd_fits : FuncData} (D_fits : Dfn K mg "fits" s_fits p_fits f_fits fd_fits) {f_led : Addr} {fd_led : FuncData} (D_led : Dfn K mg "led" s_led p_led f_led fd_led) {f_nothing : Addr} {fd_nothing : FuncData} (D_nothing : Dfn K mg "nothing" s_nothing p_nothing f_nothing fd_nothing) {f_changes_nothing : Addr} {fd_changes_nothing : FuncData} (D_changes_nothing : Dfn K mg "changes_nothing" s_changes_nothing p_changes_nothing f_changes_nothing fd_changes_nothing) {f__check_fitting : Addr} {fd__check_fitting : FuncData} (D__check_fitting : Dfn K mg "_check_fitting" s__check_fitting p__check_fitting f__check_fitting fd__check_fitting) {f_joined : Addr} {fd_joined : FuncData} (D_joined : Dfn K mg "joined" s_joined p_joined f_joined fd_joined) {f_back : Addr} {fd_back : FuncData} (D_back : Dfn K mg "back" s_back p_back f_back fd_back) {f__law_urn : Addr} {fd__law_urn : FuncData} (D__law_urn : Dfn K mg "_law_urn" s__law_urn p__law_urn f__law_urn fd__law_urn) {f__law_pull : Addr} {fd__law_pull : FuncData} (D__law_pull : Dfn K mg "_law_pull" s__law_pull p__law_pull f__law_pull fd__law_pull) {f__law_one : Addr} {fd__law_one : FuncData} (D__law_one : Dfn K mg "_law_one" s__law_one p__law_one f__law_one fd__law_one) {f__law_is : Addr} {fd__law_is : FuncData} (D__law_is : Dfn K mg "_law_is" s__law_is p__law_is f__law_is fd__law_is) {f__law_truth : Addr} {fd__law_truth : FuncData} (D__law_truth : Dfn K mg "_law_truth" s__law_truth p__law_truth f__law_truth fd__law_truth) {f__law_plain_kind : Addr} {fd__law_plain_kind : FuncData} (D__law_plain_kind : Dfn K mg "_law_plain_kind" s__law_plain_kind p__law_plain_kind f__law_plain_kind fd__law_plain_kind) {f__law_data_kind : Addr} {fd__law_data_kind : FuncData} (D__law_data_kind : Dfn K mg "_law_data_kind" s__law_data_kind p__law_data_kind f__law_data_kind fd__law_data_kind) {f__law_bag : Addr} {fd__law_bag : FuncData} (D__law_bag : Dfn K mg "_law_bag" s__law_bag p__law_bag f__law_bag fd__law_bag) {f__law_whole : Addr} {fd__law_whole : FuncData} (D__law_whole : Dfn K mg "_law_whole" s__law_whole p__law_whole f__law_whole fd__law_whole) {f__law_value : Addr} {fd__law_value : FuncData} (D__law_value : Dfn K mg "_law_value" s__law_value p__law_value f__law_value fd__law_value) {f__law_plus : Addr} {fd__law_plus : FuncData} (D__law_plus : Dfn K mg "_law_plus" s__law_plus p__law_plus f__law_plus fd__law_plus) {f__law_many : Addr} {fd__law_many : FuncData} (D__law_many : Dfn K mg "_law_many" s__law_many p__law_many f__law_many fd__law_many) {f__law_led : Addr} {fd__law_led : FuncData} (D__law_led : Dfn K mg "_law_led" s__law_led p__law_led f__law_led fd__law_led) {f__law_less : Addr} {fd__law_less : FuncData} (D__law_less : Dfn K mg "_law_less" s__law_less p__law_less f__law_less fd__law_less) {f__law_joined : Addr} {fd__law_joined : FuncData} (D__law_joined : Dfn K mg "_law_joined" s__law_joined p__law_joined f__law_joined fd__law_joined) {f__law_change : Addr} {fd__law_change : FuncData} (D__law_change : Dfn K mg "_law_change" s__law_change p__law_change f__law_change fd__law_change) {f__law_right : Addr} {fd__law_right : FuncData} (D__law_right : Dfn K mg "_law_right" s__law_right p__law_right f__law_right fd__law_right) {f_law : Addr} {fd_law : FuncData} (D_law : Dfn K mg "law" s_law p_law f_law fd_law) (KB_back_210 : KBinds K fd_back p_back ["change", "value", "kind"] (pickG [2, 1, 0] 3) (pickG [2, 1, 0] 3)) (KB_joined_3210 : KBinds K fd_joined p_joined ["two", "one", "value", "kind"] (pickG [3, 2, 1, 0] 4) (pickG [3, 2, 1, 0] 4)) {a__DATA_WORDS : Addr} (C__DATA_WORDS : CTup K mg "_DATA_WORDS" c__DATA_WORDS a__DATA_WORDS) {t__DEEPEST : Tok} (C__DEEPEST : mg "_DEEPEST" = some (.int 100 t__DEEPEST)) {a__PARTS : Addr} {es__PARTS : Array DictEntry} {z__PARTS : Nat} (C__PARTS : CTab K w mg "_PARTS" c__PARTS a__PARTS es__PARTS z__PARTS) {a__PLAIN_WORDS : Addr} (C__PLAIN_WORDS : CTup K mg "_PLAIN_WORDS" c__PLAIN_WORDS a__PLAIN_WORDS) (base : Heap) : ∀ n : Nat, GOk P w K mg base n f__has_form fd__has_form p__has_form (spM K 1 (m__has_form n)) ∧ GOk P w K mg base n f__is_made_of fd__is_made_of p__is_made_of (spM K 2 (m__is_made_of n)) ∧ GOk P w K mg base n f__is_kind_within fd__is_kind_within p__is_kind_within (spM K 2 (m__is_kind_within n)) ∧ GOk P w K mg base n f_is_kind fd_is_kind p_is_kind (spM K 1 (m_is_kind n)) ∧ GOk P w K mg base n f_is_known_data fd_is_known_data p_is_known_data (spM K 1 (m_is_known_data n)) ∧ GOk P w K mg base n f_is_data_kind fd_is_data_kind p_is_data_kind (spM K 1 (m_is_data_kind n)) ∧ GOk P w K mg base n f_gathered fd_gathered p_gathered (spM K 1 (m_gathered n)) ∧ GOk P w K mg base n f_plus_in fd_plus_in p_plus_in (spM K 3 (m_plus_in n)) ∧ GOk P w K mg base n f__bag_times fd__bag_times p__bag_times (spM K 2 (m__bag_times n)) ∧ GOk P w K mg base n f_times_in fd_times_in p_times_in (spM K 3 (m_times_in n)) ∧ GOk P w K mg base n f_kind_of_changes fd_kind_of_changes p_kind_of_changes (spM K 1 (m_kind_of_changes n)) ∧ GOk P w K mg base n f__side_kind fd__side_kind p__side_kind (spM K 2 (m__side_kind n)) ∧ GOk P w K mg base n f_fits_in fd_fits_in p_fits_in (spM K 3 (m_fits_in n)) ∧ GOk P w K mg base n f_led_in fd_led_in p_led_in (spM K 3 (m_led_in n)) ∧ GOk P w K mg base n f__led_side fd__led_side p__led_side (spM K 3 (m__led_side n)) ∧ GOk P w K mg base n f_less_in fd_less_in p_less_in (spM K 3 (m_less_in n)) ∧ GOk P w K mg base n f_joined_in fd_joined_in p_joined_in (spM K 4 (m_joined_in n)) ∧ GOk P w K mg base n f__joined_sides fd__joined_sides p__joined_sides (spM K 4 (m__joined_sides n)) ∧ GOk P w K mg base n f_back_in fd_back_in p_back_in (spM K 3 (m_back_in n)) ∧ GOk P w K mg base n f_is_whole fd_is_whole p_is_whole (spM K 1 (m_is_whole n)) ∧ GOk P w K mg base n f__begins fd__begins p__begins (spM K 3 (m__begins n)) ∧ GOk P w K mg base n f_is_of fd_is_of p_is_of (spM K 2 (m_is_of n)) ∧ GOk P w K mg base n f__is_bag fd__is_bag p__is_bag (spM K 2 (m__is_bag n)) ∧ GOk P w K mg base n f__is_counted fd__is_counted p__is_counted (spM K 2 (m__is_counted n)) ∧ GOk P w K mg base n f_check_value fd_check_value p_check_value (spM K 2 (m_check_value n)) ∧ GOk P w K mg base n f__check_data_kind fd__check_data_kind p__check_data_kind (spM K 1 (m__check_data_kind n)) ∧ GOk P w K mg base n f__check_all fd__check_all p__check_all (spM K 3 (m__check_all n)) ∧ GOk P w K mg base n f_fits fd_fits p_fits (spM K 3 (m_fits n)) ∧ GOk P w K mg base n f_led fd_led p_led (spM K 3 (m_led n)) ∧ GOk P w K mg base n f_nothing fd_nothing p_nothing (spM K 2 (m_nothing n)) ∧ GOk P w K mg base n f_changes_nothing fd_changes_nothing p_changes_nothing (spM K 3 (m_changes_nothing n)) ∧ GOk P w K mg base n f__check_fitting fd__check_fitting p__check_fitting (spM K 3 (m__check_fitting n)) ∧ GOk P w K mg base n f_joined fd_joined p_joined (spM K 4 (m_joined n)) ∧ GOk P w K mg base n f_back fd_back p_back (spM K 3 (m_back n)) ∧ GOk P w K mg base n f__law_urn fd__law_urn p__law_urn (spM K 2 (m__law_urn n)) ∧ GOk P w K mg base n f__law_pull fd__law_pull p__law_pull (spM K 2 (m__law_pull n)) ∧ GOk P w K mg base n f__law_one fd__law_one p__law_one (spM K 2 (m__law_one n)) ∧ GOk P w K mg base n f__law_is fd__law_is p__law_is (spM K 2 (m__law_is n)) ∧ GOk P w K mg base n f__law_truth fd__law_truth p__law_truth (spM K 0 (m__law_truth n)) ∧ GOk P w K mg base n f__law_plain_kind fd__law_plain_kind p__law_plain_kind (spM K 2 (m__law_plain_kind n)) ∧ GOk P w K mg base n f__law_data_kind fd__law_data_kind p__law_data_kind (spM K 2 (m__law_data_kind n)) ∧ GOk P w K mg base n f__law_bag fd__law_bag p__law_bag (spM K 1 (m__law_bag n)) ∧ GOk P w K mg base n f__law_whole fd__law_whole p__law_whole (spM K 1 (m__law_whole n)) ∧ GOk P w K mg base n f__law_value fd__law_value p__law_value (spM K 2 (m__law_value n)) ∧ GOk P w K mg base n f__law_plus fd__law_plus p__law_plus (spM K 2 (m__law_plus n)) ∧ GOk P w K mg base n f__law_many fd__law_many p__law_many (spM K 2 (m__law_many n)) ∧ GOk P w K mg base n f__law_led fd__law_led p__law_led (spM K 3 (m__law_led n)) ∧ GOk P w K mg base n f__law_less fd__law_less p__law_less (spM K 3 (m__law_less n)) ∧ GOk P w K mg base n f__law_joined fd__law_joined p__law_joined (spM K 3 (m__law_joined n)) ∧ GOk P w K mg base n f__law_change fd__law_change p__law_change (spM K 3 (m__law_change n)) ∧ GOk P w K mg base n f__law_right fd__law_right p__law_right (spM K 1 (m__law_right n)) ∧ GOk P w K mg base n f_law fd_law p_law (spM K 1 (m_law n)) := by
  intro n
  induction n with
  | zero => exact ⟨none_G, none_G, none_G, none_G, none_G, none_G, none_G, none_G, none_G, none_G, none_G, none_G, none_G, none_G, none_G, none_G, none_G, none_G, none_G, none_G, none_G, none_G, none_G, none_G, none_G, none_G, none_G, none_G, none_G, none_G, none_G, none_G, none_G, none_G, none_G, none_G, none_G, none_G, none_G, none_G, none_G, none_G, none_G, none_G, none_G, none_G, none_G, none_G, none_G, none_G, none_G, none_G⟩
  | succ n ih =>
    obtain ⟨G__has_form, G__is_made_of, G__is_kind_within, G_is_kind, G_is_known_data, G_is_data_kind, G_gathered, G_plus_in, G__bag_times, G_times_in, G_kind_of_changes, G__side_kind, G_fits_in, G_led_in, G__led_side, G_less_in, G_joined_in, G__joined_sides, G_back_in, G_is_whole, G__begins, G_is_of, G__is_bag, G__is_counted, G_check_value, G__check_data_kind, G__check_all, G_fits, G_led, G_nothing, G_changes_nothing, G__check_fitting, G_joined, G_back, G__law_urn, G__law_pull, G__law_one, G__law_is, G__law_truth, G__law_plain_kind, G__law_data_kind, G__law_bag, G__law_whole, G__law_value, G__law_plus, G__law_many, G__law_led, G__law_less, G__law_joined, G__law_change, G__law_right, G_law⟩ := ih
    exact ⟨ok__has_form B D__has_form C__PARTS, ok__is_made_of B D__is_made_of G__is_made_of, ok__is_kind_within B D__has_form D__is_kind_within D__is_made_of G__has_form G__is_kind_within G__is_made_of C__PLAIN_WORDS, ok_is_kind B D__is_kind_within D_is_kind G__is_kind_within C__DEEPEST, ok_is_known_data B D__is_made_of D_is_known_data G__is_made_of C__DATA_WORDS, ok_is_data_kind B D_is_data_kind D_is_kind D_is_known_data G_is_kind G_is_known_data, ok_gathered B D_gathered, ok_plus_in B D_gathered D_plus_in G_gathered G_plus_in, ok__bag_times B D__bag_times, ok_times_in B D__bag_times D_times_in G__bag_times G_times_in, ok_kind_of_changes B D_kind_of_changes G_kind_of_changes, ok__side_kind B D__side_kind, ok_fits_in B D__side_kind D_fits_in G__side_kind G_fits_in, ok_led_in B D__led_side D_led_in D_plus_in G__led_side G_led_in G_plus_in, ok__led_side B D__led_side D__side_kind D_led_in G__side_kind G_led_in, ok_less_in B D__side_kind D_less_in D_plus_in D_times_in G__side_kind G_less_in G_plus_in G_times_in, ok_joined_in B D__joined_sides D_joined_in D_plus_in G__joined_sides G_joined_in G_plus_in, ok__joined_sides B D__joined_sides D__side_kind D_joined_in D_led_in G__side_kind G_joined_in G_led_in, ok_back_in B D_back_in D_led_in D_less_in G_led_in G_less_in, ok_is_whole B D_is_whole, ok__begins B D__begins, ok_is_of B D__begins D__is_bag D_is_of D_is_whole G__begins G__is_bag G_is_of G_is_whole, ok__is_bag B D__is_bag D__is_counted G__is_counted, ok__is_counted B D__is_counted D_is_of D_is_whole G_is_of G_is_whole, ok_check_value B D_check_value D_is_of G_is_of, ok__check_data_kind B D__check_data_kind D_is_data_kind G_is_data_kind, ok__check_all B D__check_all D__check_data_kind D_check_value D_is_of D_kind_of_changes G__check_data_kind G_check_value G_is_of G_kind_of_changes, ok_fits B D__check_all D_fits D_fits_in G__check_all G_fits_in, ok_led B D__check_all D_led D_led_in G__check_all G_led_in, ok_nothing B D__check_all D_less_in D_nothing G__check_all G_less_in, ok_changes_nothing B D__check_all D_changes_nothing D_fits_in D_led_in G__check_all G_fits_in G_led_in, ok__check_fitting B D__check_fitting D_fits_in G_fits_in, ok_joined B D__check_all D__check_fitting D_joined D_joined_in D_led_in G__check_all G__check_fitting G_joined_in G_led_in, ok_back B D__check_all D__check_fitting D_back D_back_in G__check_all G__check_fitting G_back_in, ok__law_urn B D__law_urn, ok__law_pull B D__law_pull, ok__law_one B D__law_one D__law_pull G__law_pull, ok__law_is B D__law_is, ok__law_truth B D__law_truth, ok__law_plain_kind B D__law_plain_kind D__law_pull D__law_truth G__law_plain_kind G__law_pull G__law_truth, ok__law_data_kind B D__law_data_kind D__law_plain_kind D__law_pull G__law_data_kind G__law_plain_kind G__law_pull, ok__law_bag B D__law_bag, ok__law_whole B D__law_one D__law_pull D__law_whole G__law_one G__law_pull, ok__law_value B D__law_bag D__law_one D__law_pull D__law_value D__law_whole G__law_bag G__law_one G__law_pull G__law_value G__law_whole, ok__law_plus B D__law_bag D__law_plus G__law_bag G__law_plus, ok__law_many B D__law_bag D__law_many G__law_bag G__law_many, ok__law_led B D__law_led D__law_plus G__law_led G__law_plus, ok__law_less B D__law_less D__law_many D__law_plus G__law_less G__law_many G__law_plus, ok__law_joined B D__law_joined D__law_led D__law_plus G__law_joined G__law_led G__law_plus, ok__law_change B D__law_change D__law_one D__law_pull D__law_value G__law_change G__law_one G__law_pull G__law_value, ok__law_right B D__law_change D__law_data_kind D__law_is D__law_joined D__law_led D__law_less D__law_right D__law_value D_back D_changes_nothing D_fits D_joined D_led D_nothing G__law_change G__law_data_kind G__law_is G__law_joined G__law_led G__law_less G__law_value G_back G_changes_nothing G_fits G_joined G_led G_nothing KB_joined_3210 KB_back_210, ok_law B D__law_right D__law_urn D_law G__law_right G__law_urn⟩
end
theorem dfn_mk {K : PySem.W.Frag} {h : Heap} {mg : Str → Option Value} {x : Str} {st : Stmt} {ps : List Str} {f : Addr} {oc : Value} {od an : Option Addr} {osl : Array (Option Value)} {kV doc pm cdv ct : Value} (X : K.In h) (G : h.Ns mainGlobals mg)
    (a : PySem.W.nsIn K mainGlobals x = some (some (.ref f))) (l : K.lookup f = some ⟨oc, od, .func (PySem.W.fnOf x x (defArgs st) (defBody st) (defScope st) .none kV doc pm an cdv ct), osl⟩) (c : PySem.W.codeIn K cdv x = true) (k : PySem.W.keepIn K (.ref f) = true)
    (b : ∀ (kV doc pm : Value) (an : Option Addr) (cdv ct : Value) (us : List Value), us.length = ps.length → bindArgs (PySem.W.fnOf x x (defArgs st) (defBody st) (defScope st) .none kV doc pm an cdv ct) ⟨us, []⟩ = pure (ps.zip us)) :
    Dfn K mg x st ps f (PySem.W.fnOf x x (defArgs st) (defBody st) (defScope st) .none kV doc pm an cdv ct) :=
  ⟨fun_mk l c k, PySem.W.mg_of X G a, (fun_mk l c k).binds b⟩
theorem end_mk (N0 : Nat) {P : Program} {w : World} {K : PySem.W.Frag} {h : Heap} {mg : Str → Option Value} {fa : Addr} (X : K.In h) (G : h.Ns mainGlobals mg) (hfa : mg "law" = some (.ref fa))
    {f__has_form : Addr} {od__has_form an__has_form : Option Addr} {sl__has_form : Array (Option Value)} {oc__has_form kV__has_form dc__has_form pm__has_form cd__has_form ct__has_form : Value} {f__is_made_of : Addr} {od__is_made_of an__is_made_of : Option Addr} {sl__is_made_of : Array (Option Value)} {oc__is_made_of kV__is_made_of dc__is_made_of pm__is_made_of cd__is_made_of ct__is_made_of : Value} {f__is_kind_within : Addr} {od__is_kind_within an__is_kind_within : Option Addr} {sl__is_kind_within : Array (Option Value)} {oc__is_kind_within kV__is_kind_within dc__is_kind_within pm__is_kind_within cd__is_kind_within ct__is_kind_within : Value} {f_is_kind : Addr} {od_is_kind an_is_kind : Option Addr} {sl_is_kind : Array (Option Value)} {oc_is_kind kV_is_kind dc_is_kind pm_is_kind cd_is_kind ct_is_kind : Value} {f_is_known_data : Addr} {od_is_known_data an_is_known_data : Option Addr} {sl_is_known_data : Array (Option Value)} {oc_is_known_data kV_is_known_data dc_is_known_data pm_is_known_data cd_is_known_data ct_is_known_data : Value} {f_is_data_kind : Addr} {od_is_data_kind an_is_data_kind : Option Addr} {sl_is_data_kind : Array (Option Value)} {oc_is_data_kind kV_is_data_kind dc_is_data_kind pm_is_data_kind cd_is_data_kind ct_is_data_kind : Value} {f_gathered : Addr} {od_gathered an_gathered : Option Addr} {sl_gathered : Array (Option Value)} {oc_gathered kV_gathered dc_gathered pm_gathered cd_gathered ct_gathered : Value} {f_plus_in : Addr} {od_plus_in an_plus_in : Option Addr} {sl_plus_in : Array (Option Value)} {oc_plus_in kV_plus_in dc_plus_in pm_plus_in cd_plus_in ct_plus_in : Value} {f__bag_times : Addr} {od__bag_times an__bag_times : Option Addr} {sl__bag_times : Array (Option Value)} {oc__bag_times kV__bag_times dc__bag_times pm__bag_times cd__bag_times ct__bag_times : Value} {f_times_in : Addr} {od_times_in an_times_in : Option Addr} {sl_times_in : Array (Option Value)} {oc_times_in kV_times_in dc_times_in pm_times_in cd_times_in ct_times_in : Value} {f_kind_of_changes : Addr} {od_kind_of_changes an_kind_of_changes : Option Addr} {sl_kind_of_changes : Array (Option Value)} {oc_kind_of_changes kV_kind_of_changes dc_kind_of_changes pm_kind_of_changes cd_kind_of_changes ct_kind_of_changes : Value} {f__side_kind : Addr} {od__side_kind an__side_kind : Option Addr} {sl__side_kind : Array (Option Value)} {oc__side_kind kV__side_kind dc__side_kind pm__side_kind cd__side_kind ct__side_kind : Value} {f_fits_in : Addr} {od_fits_in an_fits_in : Option Addr} {sl_fits_in : Array (Option Value)} {oc_fits_in kV_fits_in dc_fits_in pm_fits_in cd_fits_in ct_fits_in : Value} {f_led_in : Addr} {od_led_in an_led_in : Option Addr} {sl_led_in : Array (Option Value)} {oc_led_in kV_led_in dc_led_in pm_led_in cd_led_in ct_led_in : Value} {f__led_side : Addr} {od__led_side an__led_side : Option Addr} {sl__led_side : Array (Option Value)} {oc__led_side kV__led_side dc__led_side pm__led_side cd__led_side ct__led_side : Value} {f_less_in : Addr} {od_less_in an_less_in : Option Addr} {sl_less_in : Array (Option Value)} {oc_less_in kV_less_in dc_less_in pm_less_in cd_less_in ct_less_in : Value} {f_joined_in : Addr} {od_joined_in an_joined_in : Option Addr} {sl_joined_in : Array (Option Value)} {oc_joined_in kV_joined_in dc_joined_in pm_joined_in cd_joined_in ct_joined_in : Value} {f__joined_sides : Addr} {od__joined_sides an__joined_sides : Option Addr} {sl__joined_sides : Array (Option Value)} {oc__joined_sides kV__joined_sides dc__joined_sides pm__joined_sides cd__joined_sides ct__joined_sides : Value} {f_back_in : Addr} {od_back_in an_back_in : Option Addr} {sl_back_in : Array (Option Value)} {oc_back_in kV_back_in dc_back_in pm_back_in cd_back_in ct_back_in : Value} {f_is_whole : Addr} {od_is_whole an_is_whole : Option Addr} {sl_is_whole : Array (Option Value)} {oc_is_whole kV_is_whole dc_is_whole pm_is_whole cd_is_whole ct_is_whole : Value} {f__begins : Addr} {od__begins an__begins : Option Addr} {sl__begins : Array (Option Value)} {oc__begins kV__begins dc__begins pm__begins cd__begins ct__begins : Value} {f_is_of : Addr} {od_is_of an_is_of : Option Addr} {sl_is_of : Array (Option Value)} {oc_is_of kV_is_of dc_is_of pm_is_of cd_is_of ct_is_of : Value} {f__is_bag : Addr} {od__is_bag an__is_bag : Option Addr} {sl__is_bag : Array (Option Value)} {oc__is_bag kV__is_bag dc__is_bag pm__is_bag cd__is_bag ct__is_bag : Value} {f__is_counted : Addr} {od__is_counted an__is_counted : Option Addr} {sl__is_counted : Array (Option Value)} {oc__is_counted kV__is_counted dc__is_counted pm__is_counted cd__is_counted ct__is_counted : Value} {f_check_value : Addr} {od_check_value an_check_value : Option Addr} {sl_check_value : Array (Option Value)} {oc_check_value kV_check_value dc_check_value pm_check_value cd_check_value ct_check_value : Value} {f__check_data_kind : Addr} {od__check_data_kind an__check_data_kind : Option Addr} {sl__check_data_kind : Array (Option Value)} {oc__check_data_kind kV__check_data_kind dc__check_data_kind pm__check_data_kind cd__check_data_kind ct__check_data_kind : Value} {f__check_all : Addr} {od__check_all an__check_all : Option Addr} {sl__check_all : Array (Option Value)} {oc__check_all kV__check_all dc__check_all pm__check_all cd__check_all ct__check_all : Value} {f_fits : Addr} {od_fits an_fits : Option Addr} {sl_fits : Array (Option Value)} {oc_fits kV_fits dc_fits pm_fits cd_fits ct_fits : Value} {f_led : Addr} {od_led an_led : Option Addr} {sl_led : Array (Option Value)} {oc_led kV_led dc_led pm_led cd_led ct_led : Value} {f_nothing : Addr} {od_nothing an_nothing : Option Addr} {sl_nothing : Array (Option Value)} {oc_nothing kV_nothing dc_nothing pm_nothing cd_nothing ct_nothing : Value} {f_changes_nothing : Addr} {od_changes_nothing an_changes_nothing : Option Addr} {sl_changes_nothing : Array (Option Value)} {oc_changes_nothing kV_changes_nothing dc_changes_nothing pm_changes_nothing cd_changes_nothing ct_changes_nothing : Value} {f__check_fitting : Addr} {od__check_fitting an__check_fitting : Option Addr} {sl__check_fitting : Array (Option Value)} {oc__check_fitting kV__check_fitting dc__check_fitting pm__check_fitting cd__check_fitting ct__check_fitting : Value} {f_joined : Addr} {od_joined an_joined : Option Addr} {sl_joined : Array (Option Value)} {oc_joined kV_joined dc_joined pm_joined cd_joined ct_joined : Value} {f_back : Addr} {od_back an_back : Option Addr} {sl_back : Array (Option Value)} {oc_back kV_back dc_back pm_back cd_back ct_back : Value} {f__law_urn : Addr} {od__law_urn an__law_urn : Option Addr} {sl__law_urn : Array (Option Value)} {oc__law_urn kV__law_urn dc__law_urn pm__law_urn cd__law_urn ct__law_urn : Value} {f__law_pull : Addr} {od__law_pull an__law_pull : Option Addr} {sl__law_pull : Array (Option Value)} {oc__law_pull kV__law_pull dc__law_pull pm__law_pull cd__law_pull ct__law_pull : Value} {f__law_one : Addr} {od__law_one an__law_one : Option Addr} {sl__law_one : Array (Option Value)} {oc__law_one kV__law_one dc__law_one pm__law_one cd__law_one ct__law_one : Value} {f__law_is : Addr} {od__law_is an__law_is : Option Addr} {sl__law_is : Array (Option Value)} {oc__law_is kV__law_is dc__law_is pm__law_is cd__law_is ct__law_is : Value} {f__law_truth : Addr} {od__law_truth an__law_truth : Option Addr} {sl__law_truth : Array (Option Value)} {oc__law_truth kV__law_truth dc__law_truth pm__law_truth cd__law_truth ct__law_truth : Value} {f__law_plain_kind : Addr} {od__law_plain_kind an__law_plain_kind : Option Addr} {sl__law_plain_kind : Array (Option Value)} {oc__law_plain_kind kV__law_plain_kind dc__law_plain_kind pm__law_plain_kind cd__law_plain_kind ct__law_plain_kind : Value} {f__law_data_kind : Addr} {od__law_data_kind an__law_data_kind : Option Addr} {sl__law_data_kind : Array (Option Value)} {oc__law_data_kind kV__law_data_kind dc__law_data_kind pm__law_data_kind cd__law_data_kind ct__law_data_kind : Value} {f__law_bag : Addr} {od__law_bag an__law_bag : Option Addr} {sl__law_bag : Array (Option Value)} {oc__law_bag kV__law_bag dc__law_bag pm__law_bag cd__law_bag ct__law_bag : Value} {f__law_whole : Addr} {od__law_whole an__law_whole : Option Addr} {sl__law_whole : Array (Option Value)} {oc__law_whole kV__law_whole dc__law_whole pm__law_whole cd__law_whole ct__law_whole : Value} {f__law_value : Addr} {od__law_value an__law_value : Option Addr} {sl__law_value : Array (Option Value)} {oc__law_value kV__law_value dc__law_value pm__law_value cd__law_value ct__law_value : Value} {f__law_plus : Addr} {od__law_plus an__law_plus : Option Addr} {sl__law_plus : Array (Option Value)} {oc__law_plus kV__law_plus dc__law_plus pm__law_plus cd__law_plus ct__law_plus : Value} {f__law_many : Addr} {od__law_many an__law_many : Option Addr} {sl__law_many : Array (Option Value)} {oc__law_many kV__law_many dc__law_many pm__law_many cd__law_many ct__law_many : Value} {f__law_led : Addr} {od__law_led an__law_led : Option Addr} {sl__law_led : Array (Option Value)} {oc__law_led kV__law_led dc__law_led pm__law_led cd__law_led ct__law_led : Value} {f__law_less : Addr} {od__law_less an__law_less : Option Addr} {sl__law_less : Array (Option Value)} {oc__law_less kV__law_less dc__law_less pm__law_less cd__law_less ct__law_less : Value} {f__law_joined : Addr} {od__law_joined an__law_joined : Option Addr} {sl__law_joined : Array (Option Value)} {oc__law_joined kV__law_joined dc__law_joined pm__law_joined cd__law_joined ct__law_joined : Value} {f__law_change : Addr} {od__law_change an__law_change : Option Addr} {sl__law_change : Array (Option Value)} {oc__law_change kV__law_change dc__law_change pm__law_change cd__law_change ct__law_change : Value} {f__law_right : Addr} {od__law_right an__law_right : Option Addr} {sl__law_right : Array (Option Value)} {oc__law_right kV__law_right dc__law_right pm__law_right cd__law_right ct__law_right : Value} {f_law : Addr} {od_law an_law : Option Addr} {sl_law : Array (Option Value)} {oc_law kV_law dc_law pm_law cd_law ct_law : Value} {ta0_0 : Addr} {td0_0 : Option Addr} {ti0_0 : Array Value} {tn0_0 : Nat} {ts0_0 : Array (Option Value)} {t__DEEPEST : Tok} {a__PARTS : Addr} {es__PARTS : Array DictEntry} {z__PARTS : Nat} {ta3_0 : Addr} {td3_0 : Option Addr} {ti3_0 : Array Value} {tn3_0 : Nat} {ts3_0 : Array (Option Value)}
    (z0 : PySem.W.nsIn K mainGlobals "abs" = some none) (z1 : PySem.W.nsIn K mainGlobals "bool" = some none) (z2 : PySem.W.nsIn K mainGlobals "divmod" = some none) (z3 : PySem.W.nsIn K mainGlobals "int" = some none) (z4 : PySem.W.nsIn K mainGlobals "isinstance" = some none) (z5 : PySem.W.nsIn K mainGlobals "len" = some none) (z6 : PySem.W.nsIn K mainGlobals "list" = some none) (z7 : PySem.W.nsIn K mainGlobals "max" = some none) (z8 : PySem.W.nsIn K mainGlobals "min" = some none) (z9 : PySem.W.nsIn K mainGlobals "range" = some none) (z10 : PySem.W.nsIn K mainGlobals "repr" = some none) (z11 : PySem.W.nsIn K mainGlobals "sorted" = some none) (z12 : PySem.W.nsIn K mainGlobals "str" = some none) (z13 : PySem.W.nsIn K mainGlobals "tuple" = some none) (z14 : PySem.W.nsIn K mainGlobals "zip" = some none)
    (ca0 : PySem.W.nsIn K mainGlobals "_DATA_WORDS" = some (some (.ref ta0_0)))
    (tl0_0 : K.lookup ta0_0 = some ⟨.type "tuple", td0_0, .seq ti0_0 tn0_0, ts0_0⟩) (tz0_0 : ti0_0.size ≤ sizeLine) (tv0_0 : Vals [.str "unit", .str "num", .str "pair", .str "either", .str "bag"] ti0_0.toList)
    (ca1 : PySem.W.nsIn K mainGlobals "_DEEPEST" = some (some (.int 100 t__DEEPEST)))
    (ca2 : PySem.W.nsIn K mainGlobals "_PARTS" = some (some (.ref a__PARTS))) (cl2 : K.lookup a__PARTS = some ⟨.type "dict", none, .dict es__PARTS z__PARTS, #[]⟩) (ck2 : PySem.W.KeysLit w.params es__PARTS.toList) (cz2 : (a__PARTS == sysModules) = false) (ci2 : TabIs K es__PARTS.toList c__PARTS)
    (ca3 : PySem.W.nsIn K mainGlobals "_PLAIN_WORDS" = some (some (.ref ta3_0)))
    (tl3_0 : K.lookup ta3_0 = some ⟨.type "tuple", td3_0, .seq ti3_0 tn3_0, ts3_0⟩) (tz3_0 : ti3_0.size ≤ sizeLine) (tv3_0 : Vals [.str "unit", .str "num", .str "pair", .str "either"] ti3_0.toList)
    (a__has_form : PySem.W.nsIn K mainGlobals "_has_form" = some (some (.ref f__has_form))) (l__has_form : K.lookup f__has_form = some ⟨oc__has_form, od__has_form, .func (PySem.W.fnOf "_has_form" "_has_form" (defArgs s__has_form) (defBody s__has_form) (defScope s__has_form) .none kV__has_form dc__has_form pm__has_form an__has_form cd__has_form ct__has_form), sl__has_form⟩) (c__has_form : PySem.W.codeIn K cd__has_form "_has_form" = true) (k__has_form : PySem.W.keepIn K (.ref f__has_form) = true)
      (b__has_form : ∀ (kV dc pm : Value) (an : Option Addr) (cdv ct : Value) (us : List Value), us.length = p__has_form.length → bindArgs (PySem.W.fnOf "_has_form" "_has_form" (defArgs s__has_form) (defBody s__has_form) (defScope s__has_form) .none kV dc pm an cdv ct) ⟨us, []⟩ = pure (p__has_form.zip us))
    (a__is_made_of : PySem.W.nsIn K mainGlobals "_is_made_of" = some (some (.ref f__is_made_of))) (l__is_made_of : K.lookup f__is_made_of = some ⟨oc__is_made_of, od__is_made_of, .func (PySem.W.fnOf "_is_made_of" "_is_made_of" (defArgs s__is_made_of) (defBody s__is_made_of) (defScope s__is_made_of) .none kV__is_made_of dc__is_made_of pm__is_made_of an__is_made_of cd__is_made_of ct__is_made_of), sl__is_made_of⟩) (c__is_made_of : PySem.W.codeIn K cd__is_made_of "_is_made_of" = true) (k__is_made_of : PySem.W.keepIn K (.ref f__is_made_of) = true)
      (b__is_made_of : ∀ (kV dc pm : Value) (an : Option Addr) (cdv ct : Value) (us : List Value), us.length = p__is_made_of.length → bindArgs (PySem.W.fnOf "_is_made_of" "_is_made_of" (defArgs s__is_made_of) (defBody s__is_made_of) (defScope s__is_made_of) .none kV dc pm an cdv ct) ⟨us, []⟩ = pure (p__is_made_of.zip us))
    (a__is_kind_within : PySem.W.nsIn K mainGlobals "_is_kind_within" = some (some (.ref f__is_kind_within))) (l__is_kind_within : K.lookup f__is_kind_within = some ⟨oc__is_kind_within, od__is_kind_within, .func (PySem.W.fnOf "_is_kind_within" "_is_kind_within" (defArgs s__is_kind_within) (defBody s__is_kind_within) (defScope s__is_kind_within) .none kV__is_kind_within dc__is_kind_within pm__is_kind_within an__is_kind_within cd__is_kind_within ct__is_kind_within), sl__is_kind_within⟩) (c__is_kind_within : PySem.W.codeIn K cd__is_kind_within "_is_kind_within" = true) (k__is_kind_within : PySem.W.keepIn K (.ref f__is_kind_within) = true)
      (b__is_kind_within : ∀ (kV dc pm : Value) (an : Option Addr) (cdv ct : Value) (us : List Value), us.length = p__is_kind_within.length → bindArgs (PySem.W.fnOf "_is_kind_within" "_is_kind_within" (defArgs s__is_kind_within) (defBody s__is_kind_within) (defScope s__is_kind_within) .none kV dc pm an cdv ct) ⟨us, []⟩ = pure (p__is_kind_within.zip us))
    (a_is_kind : PySem.W.nsIn K mainGlobals "is_kind" = some (some (.ref f_is_kind))) (l_is_kind : K.lookup f_is_kind = some ⟨oc_is_kind, od_is_kind, .func (PySem.W.fnOf "is_kind" "is_kind" (defArgs s_is_kind) (defBody s_is_kind) (defScope s_is_kind) .none kV_is_kind dc_is_kind pm_is_kind an_is_kind cd_is_kind ct_is_kind), sl_is_kind⟩) (c_is_kind : PySem.W.codeIn K cd_is_kind "is_kind" = true) (k_is_kind : PySem.W.keepIn K (.ref f_is_kind) = true)
      (b_is_kind : ∀ (kV dc pm : Value) (an : Option Addr) (cdv ct : Value) (us : List Value), us.length = p_is_kind.length → bindArgs (PySem.W.fnOf "is_kind" "is_kind" (defArgs s_is_kind) (defBody s_is_kind) (defScope s_is_kind) .none kV dc pm an cdv ct) ⟨us, []⟩ = pure (p_is_kind.zip us))
    (a_is_known_data : PySem.W.nsIn K mainGlobals "is_known_data" = some (some (.ref f_is_known_data))) (l_is_known_data : K.lookup f_is_known_data = some ⟨oc_is_known_data, od_is_known_data, .func (PySem.W.fnOf "is_known_data" "is_known_data" (defArgs s_is_known_data) (defBody s_is_known_data) (defScope s_is_known_data) .none kV_is_known_data dc_is_known_data pm_is_known_data an_is_known_data cd_is_known_data ct_is_known_data), sl_is_known_data⟩) (c_is_known_data : PySem.W.codeIn K cd_is_known_data "is_known_data" = true) (k_is_known_data : PySem.W.keepIn K (.ref f_is_known_data) = true)
      (b_is_known_data : ∀ (kV dc pm : Value) (an : Option Addr) (cdv ct : Value) (us : List Value), us.length = p_is_known_data.length → bindArgs (PySem.W.fnOf "is_known_data" "is_known_data" (defArgs s_is_known_data) (defBody s_is_known_data) (defScope s_is_known_data) .none kV dc pm an cdv ct) ⟨us, []⟩ = pure (p_is_known_data.zip us))
    (a_is_data_kind : PySem.W.nsIn K mainGlobals "is_data_kind" = some (some (.ref f_is_data_kind))) (l_is_data_kind : K.lookup f_is_data_kind = some ⟨oc_is_data_kind, od_is_data_kind, .func (PySem.W.fnOf "is_data_kind" "is_data_kind" (defArgs s_is_data_kind) (defBody s_is_data_kind) (defScope s_is_data_kind) .none kV_is_data_kind dc_is_data_kind pm_is_data_kind an_is_data_kind cd_is_data_kind ct_is_data_kind), sl_is_data_kind⟩) (c_is_data_kind : PySem.W.codeIn K cd_is_data_kind "is_data_kind" = true) (k_is_data_kind : PySem.W.keepIn K (.ref f_is_data_kind) = true)
      (b_is_data_kind : ∀ (kV dc pm : Value) (an : Option Addr) (cdv ct : Value) (us : List Value), us.length = p_is_data_kind.length → bindArgs (PySem.W.fnOf "is_data_kind" "is_data_kind" (defArgs s_is_data_kind) (defBody s_is_data_kind) (defScope s_is_data_kind) .none kV dc pm an cdv ct) ⟨us, []⟩ = pure (p_is_data_kind.zip us))
    (a_gathered : PySem.W.nsIn K mainGlobals "gathered" = some (some (.ref f_gathered))) (l_gathered : K.lookup f_gathered = some ⟨oc_gathered, od_gathered, .func (PySem.W.fnOf "gathered" "gathered" (defArgs s_gathered) (defBody s_gathered) (defScope s_gathered) .none kV_gathered dc_gathered pm_gathered an_gathered cd_gathered ct_gathered), sl_gathered⟩) (c_gathered : PySem.W.codeIn K cd_gathered "gathered" = true) (k_gathered : PySem.W.keepIn K (.ref f_gathered) = true)
      (b_gathered : ∀ (kV dc pm : Value) (an : Option Addr) (cdv ct : Value) (us : List Value), us.length = p_gathered.length → bindArgs (PySem.W.fnOf "gathered" "gathered" (defArgs s_gathered) (defBody s_gathered) (defScope s_gathered) .none kV dc pm an cdv ct) ⟨us, []⟩ = pure (p_gathered.zip us))
    (a_plus_in : PySem.W.nsIn K mainGlobals "plus_in" = some (some (.ref f_plus_in))) (l_plus_in : K.lookup f_plus_in = some ⟨oc_plus_in, od_plus_in, .func (PySem.W.fnOf "plus_in" "plus_in" (defArgs s_plus_in) (defBody s_plus_in) (defScope s_plus_in) .none kV_plus_in dc_plus_in pm_plus_in an_plus_in cd_plus_in ct_plus_in), sl_plus_in⟩) (c_plus_in : PySem.W.codeIn K cd_plus_in "plus_in" = true) (k_plus_in : PySem.W.keepIn K (.ref f_plus_in) = true)
      (b_plus_in : ∀ (kV dc pm : Value) (an : Option Addr) (cdv ct : Value) (us : List Value), us.length = p_plus_in.length → bindArgs (PySem.W.fnOf "plus_in" "plus_in" (defArgs s_plus_in) (defBody s_plus_in) (defScope s_plus_in) .none kV dc pm an cdv ct) ⟨us, []⟩ = pure (p_plus_in.zip us))
    (a__bag_times : PySem.W.nsIn K mainGlobals "_bag_times" = some (some (.ref f__bag_times))) (l__bag_times : K.lookup f__bag_times = some ⟨oc__bag_times, od__bag_times, .func (PySem.W.fnOf "_bag_times" "_bag_times" (defArgs s__bag_times) (defBody s__bag_times) (defScope s__bag_times) .none kV__bag_times dc__bag_times pm__bag_times an__bag_times cd__bag_times ct__bag_times), sl__bag_times⟩) (c__bag_times : PySem.W.codeIn K cd__bag_times "_bag_times" = true) (k__bag_times : PySem.W.keepIn K (.ref f__bag_times) = true)
      (b__bag_times : ∀ (kV dc pm : Value) (an : Option Addr) (cdv ct : Value) (us : List Value), us.length = p__bag_times.length → bindArgs (PySem.W.fnOf "_bag_times" "_bag_times" (defArgs s__bag_times) (defBody s__bag_times) (defScope s__bag_times) .none kV dc pm an cdv ct) ⟨us, []⟩ = pure (p__bag_times.zip us))
    (a_times_in : PySem.W.nsIn K mainGlobals "times_in" = some (some (.ref f_times_in))) (l_times_in : K.lookup f_times_in = some ⟨oc_times_in, od_times_in, .func (PySem.W.fnOf "times_in" "times_in" (defArgs s_times_in) (defBody s_times_in) (defScope s_times_in) .none kV_times_in dc_times_in pm_times_in an_times_in cd_times_in ct_times_in), sl_times_in⟩) (c_times_in : PySem.W.codeIn K cd_times_in "times_in" = true) (k_times_in : PySem.W.keepIn K (.ref f_times_in) = true)
      (b_times_in : ∀ (kV dc pm : Value) (an : Option Addr) (cdv ct : Value) (us : List Value), us.length = p_times_in.length → bindArgs (PySem.W.fnOf "times_in" "times_in" (defArgs s_times_in) (defBody s_times_in) (defScope s_times_in) .none kV dc pm an cdv ct) ⟨us, []⟩ = pure (p_times_in.zip us))
    (a_kind_of_changes : PySem.W.nsIn K mainGlobals "kind_of_changes" = some (some (.ref f_kind_of_changes))) (l_kind_of_changes : K.lookup f_kind_of_changes = some ⟨oc_kind_of_changes, od_kind_of_changes, .func (PySem.W.fnOf "kind_of_changes" "kind_of_changes" (defArgs s_kind_of_changes) (defBody s_kind_of_changes) (defScope s_kind_of_changes) .none kV_kind_of_changes dc_kind_of_changes pm_kind_of_changes an_kind_of_changes cd_kind_of_changes ct_kind_of_changes), sl_kind_of_changes⟩) (c_kind_of_changes : PySem.W.codeIn K cd_kind_of_changes "kind_of_changes" = true) (k_kind_of_changes : PySem.W.keepIn K (.ref f_kind_of_changes) = true)
      (b_kind_of_changes : ∀ (kV dc pm : Value) (an : Option Addr) (cdv ct : Value) (us : List Value), us.length = p_kind_of_changes.length → bindArgs (PySem.W.fnOf "kind_of_changes" "kind_of_changes" (defArgs s_kind_of_changes) (defBody s_kind_of_changes) (defScope s_kind_of_changes) .none kV dc pm an cdv ct) ⟨us, []⟩ = pure (p_kind_of_changes.zip us))
    (a__side_kind : PySem.W.nsIn K mainGlobals "_side_kind" = some (some (.ref f__side_kind))) (l__side_kind : K.lookup f__side_kind = some ⟨oc__side_kind, od__side_kind, .func (PySem.W.fnOf "_side_kind" "_side_kind" (defArgs s__side_kind) (defBody s__side_kind) (defScope s__side_kind) .none kV__side_kind dc__side_kind pm__side_kind an__side_kind cd__side_kind ct__side_kind), sl__side_kind⟩) (c__side_kind : PySem.W.codeIn K cd__side_kind "_side_kind" = true) (k__side_kind : PySem.W.keepIn K (.ref f__side_kind) = true)
      (b__side_kind : ∀ (kV dc pm : Value) (an : Option Addr) (cdv ct : Value) (us : List Value), us.length = p__side_kind.length → bindArgs (PySem.W.fnOf "_side_kind" "_side_kind" (defArgs s__side_kind) (defBody s__side_kind) (defScope s__side_kind) .none kV dc pm an cdv ct) ⟨us, []⟩ = pure (p__side_kind.zip us))
    (a_fits_in : PySem.W.nsIn K mainGlobals "fits_in" = some (some (.ref f_fits_in))) (l_fits_in : K.lookup f_fits_in = some ⟨oc_fits_in, od_fits_in, .func (PySem.W.fnOf "fits_in" "fits_in" (defArgs s_fits_in) (defBody s_fits_in) (defScope s_fits_in) .none kV_fits_in dc_fits_in pm_fits_in an_fits_in cd_fits_in ct_fits_in), sl_fits_in⟩) (c_fits_in : PySem.W.codeIn K cd_fits_in "fits_in" = true) (k_fits_in : PySem.W.keepIn K (.ref f_fits_in) = true)
      (b_fits_in : ∀ (kV dc pm : Value) (an : Option Addr) (cdv ct : Value) (us : List Value), us.length = p_fits_in.length → bindArgs (PySem.W.fnOf "fits_in" "fits_in" (defArgs s_fits_in) (defBody s_fits_in) (defScope s_fits_in) .none kV dc pm an cdv ct) ⟨us, []⟩ = pure (p_fits_in.zip us))
    (a_led_in : PySem.W.nsIn K mainGlobals "led_in" = some (some (.ref f_led_in))) (l_led_in : K.lookup f_led_in = some ⟨oc_led_in, od_led_in, .func (PySem.W.fnOf "led_in" "led_in" (defArgs s_led_in) (defBody s_led_in) (defScope s_led_in) .none kV_led_in dc_led_in pm_led_in an_led_in cd_led_in ct_led_in), sl_led_in⟩) (c_led_in : PySem.W.codeIn K cd_led_in "led_in" = true) (k_led_in : PySem.W.keepIn K (.ref f_led_in) = true)
      (b_led_in : ∀ (kV dc pm : Value) (an : Option Addr) (cdv ct : Value) (us : List Value), us.length = p_led_in.length → bindArgs (PySem.W.fnOf "led_in" "led_in" (defArgs s_led_in) (defBody s_led_in) (defScope s_led_in) .none kV dc pm an cdv ct) ⟨us, []⟩ = pure (p_led_in.zip us))
    (a__led_side : PySem.W.nsIn K mainGlobals "_led_side" = some (some (.ref f__led_side))) (l__led_side : K.lookup f__led_side = some ⟨oc__led_side, od__led_side, .func (PySem.W.fnOf "_led_side" "_led_side" (defArgs s__led_side) (defBody s__led_side) (defScope s__led_side) .none kV__led_side dc__led_side pm__led_side an__led_side cd__led_side ct__led_side), sl__led_side⟩) (c__led_side : PySem.W.codeIn K cd__led_side "_led_side" = true) (k__led_side : PySem.W.keepIn K (.ref f__led_side) = true)
      (b__led_side : ∀ (kV dc pm : Value) (an : Option Addr) (cdv ct : Value) (us : List Value), us.length = p__led_side.length → bindArgs (PySem.W.fnOf "_led_side" "_led_side" (defArgs s__led_side) (defBody s__led_side) (defScope s__led_side) .none kV dc pm an cdv ct) ⟨us, []⟩ = pure (p__led_side.zip us))
    (a_less_in : PySem.W.nsIn K mainGlobals "less_in" = some (some (.ref f_less_in))) (l_less_in : K.lookup f_less_in = some ⟨oc_less_in, od_less_in, .func (PySem.W.fnOf "less_in" "less_in" (defArgs s_less_in) (defBody s_less_in) (defScope s_less_in) .none kV_less_in dc_less_in pm_less_in an_less_in cd_less_in ct_less_in), sl_less_in⟩) (c_less_in : PySem.W.codeIn K cd_less_in "less_in" = true) (k_less_in : PySem.W.keepIn K (.ref f_less_in) = true)
      (b_less_in : ∀ (kV dc pm : Value) (an : Option Addr) (cdv ct : Value) (us : List Value), us.length = p_less_in.length → bindArgs (PySem.W.fnOf "less_in" "less_in" (defArgs s_less_in) (defBody s_less_in) (defScope s_less_in) .none kV dc pm an cdv ct) ⟨us, []⟩ = pure (p_less_in.zip us))
    (a_joined_in : PySem.W.nsIn K mainGlobals "joined_in" = some (some (.ref f_joined_in))) (l_joined_in : K.lookup f_joined_in = some ⟨oc_joined_in, od_joined_in, .func (PySem.W.fnOf "joined_in" "joined_in" (defArgs s_joined_in) (defBody s_joined_in) (defScope s_joined_in) .none kV_joined_in dc_joined_in pm_joined_in an_joined_in cd_joined_in ct_joined_in), sl_joined_in⟩) (c_joined_in : PySem.W.codeIn K cd_joined_in "joined_in" = true) (k_joined_in : PySem.W.keepIn K (.ref f_joined_in) = true)
      (b_joined_in : ∀ (kV dc pm : Value) (an : Option Addr) (cdv ct : Value) (us : List Value), us.length = p_joined_in.length → bindArgs (PySem.W.fnOf "joined_in" "joined_in" (defArgs s_joined_in) (defBody s_joined_in) (defScope s_joined_in) .none kV dc pm an cdv ct) ⟨us, []⟩ = pure (p_joined_in.zip us))
    (a__joined_sides : PySem.W.nsIn K mainGlobals "_joined_sides" = some (some (.ref f__joined_sides))) (l__joined_sides : K.lookup f__joined_sides = some ⟨oc__joined_sides, od__joined_sides, .func (PySem.W.fnOf "_joined_sides" "_joined_sides" (defArgs s__joined_sides) (defBody s__joined_sides) (defScope s__joined_sides) .none kV__joined_sides dc__joined_sides pm__joined_sides an__joined_sides cd__joined_sides ct__joined_sides), sl__joined_sides⟩) (c__joined_sides : PySem.W.codeIn K cd__joined_sides "_joined_sides" = true) (k__joined_sides : PySem.W.keepIn K (.ref f__joined_sides) = true)
      (b__joined_sides : ∀ (kV dc pm : Value) (an : Option Addr) (cdv ct : Value) (us : List Value), us.length = p__joined_sides.length → bindArgs (PySem.W.fnOf "_joined_sides" "_joined_sides" (defArgs s__joined_sides) (defBody s__joined_sides) (defScope s__joined_sides) .none kV dc pm an cdv ct) ⟨us, []⟩ = pure (p__joined_sides.zip us))
    (a_back_in : PySem.W.nsIn K mainGlobals "back_in" = some (some (.ref f_back_in))) (l_back_in : K.lookup f_back_in = some ⟨oc_back_in, od_back_in, .func (PySem.W.fnOf "back_in" "back_in" (defArgs s_back_in) (defBody s_back_in) (defScope s_back_in) .none kV_back_in dc_back_in pm_back_in an_back_in cd_back_in ct_back_in), sl_back_in⟩) (c_back_in : PySem.W.codeIn K cd_back_in "back_in" = true) (k_back_in : PySem.W.keepIn K (.ref f_back_in) = true)
      (b_back_in : ∀ (kV dc pm : Value) (an : Option Addr) (cdv ct : Value) (us : List Value), us.length = p_back_in.length → bindArgs (PySem.W.fnOf "back_in" "back_in" (defArgs s_back_in) (defBody s_back_in) (defScope s_back_in) .none kV dc pm an cdv ct) ⟨us, []⟩ = pure (p_back_in.zip us))
    (a_is_whole : PySem.W.nsIn K mainGlobals "is_whole" = some (some (.ref f_is_whole))) (l_is_whole : K.lookup f_is_whole = some ⟨oc_is_whole, od_is_whole, .func (PySem.W.fnOf "is_whole" "is_whole" (defArgs s_is_whole) (defBody s_is_whole) (defScope s_is_whole) .none kV_is_whole dc_is_whole pm_is_whole an_is_whole cd_is_whole ct_is_whole), sl_is_whole⟩) (c_is_whole : PySem.W.codeIn K cd_is_whole "is_whole" = true) (k_is_whole : PySem.W.keepIn K (.ref f_is_whole) = true)
      (b_is_whole : ∀ (kV dc pm : Value) (an : Option Addr) (cdv ct : Value) (us : List Value), us.length = p_is_whole.length → bindArgs (PySem.W.fnOf "is_whole" "is_whole" (defArgs s_is_whole) (defBody s_is_whole) (defScope s_is_whole) .none kV dc pm an cdv ct) ⟨us, []⟩ = pure (p_is_whole.zip us))
    (a__begins : PySem.W.nsIn K mainGlobals "_begins" = some (some (.ref f__begins))) (l__begins : K.lookup f__begins = some ⟨oc__begins, od__begins, .func (PySem.W.fnOf "_begins" "_begins" (defArgs s__begins) (defBody s__begins) (defScope s__begins) .none kV__begins dc__begins pm__begins an__begins cd__begins ct__begins), sl__begins⟩) (c__begins : PySem.W.codeIn K cd__begins "_begins" = true) (k__begins : PySem.W.keepIn K (.ref f__begins) = true)
      (b__begins : ∀ (kV dc pm : Value) (an : Option Addr) (cdv ct : Value) (us : List Value), us.length = p__begins.length → bindArgs (PySem.W.fnOf "_begins" "_begins" (defArgs s__begins) (defBody s__begins) (defScope s__begins) .none kV dc pm an cdv ct) ⟨us, []⟩ = pure (p__begins.zip us))
    (a_is_of : PySem.W.nsIn K mainGlobals "is_of" = some (some (.ref f_is_of))) (l_is_of : K.lookup f_is_of = some ⟨oc_is_of, od_is_of, .func (PySem.W.fnOf "is_of" "is_of" (defArgs s_is_of) (defBody s_is_of) (defScope s_is_of) .none kV_is_of dc_is_of pm_is_of an_is_of cd_is_of ct_is_of), sl_is_of⟩) (c_is_of : PySem.W.codeIn K cd_is_of "is_of" = true) (k_is_of : PySem.W.keepIn K (.ref f_is_of) = true)
      (b_is_of : ∀ (kV dc pm : Value) (an : Option Addr) (cdv ct : Value) (us : List Value), us.length = p_is_of.length → bindArgs (PySem.W.fnOf "is_of" "is_of" (defArgs s_is_of) (defBody s_is_of) (defScope s_is_of) .none kV dc pm an cdv ct) ⟨us, []⟩ = pure (p_is_of.zip us))
    (a__is_bag : PySem.W.nsIn K mainGlobals "_is_bag" = some (some (.ref f__is_bag))) (l__is_bag : K.lookup f__is_bag = some ⟨oc__is_bag, od__is_bag, .func (PySem.W.fnOf "_is_bag" "_is_bag" (defArgs s__is_bag) (defBody s__is_bag) (defScope s__is_bag) .none kV__is_bag dc__is_bag pm__is_bag an__is_bag cd__is_bag ct__is_bag), sl__is_bag⟩) (c__is_bag : PySem.W.codeIn K cd__is_bag "_is_bag" = true) (k__is_bag : PySem.W.keepIn K (.ref f__is_bag) = true)
      (b__is_bag : ∀ (kV dc pm : Value) (an : Option Addr) (cdv ct : Value) (us : List Value), us.length = p__is_bag.length → bindArgs (PySem.W.fnOf "_is_bag" "_is_bag" (defArgs s__is_bag) (defBody s__is_bag) (defScope s__is_bag) .none kV dc pm an cdv ct) ⟨us, []⟩ = pure (p__is_bag.zip us))
    (a__is_counted : PySem.W.nsIn K mainGlobals "_is_counted" = some (some (.ref f__is_counted))) (l__is_counted : K.lookup f__is_counted = some ⟨oc__is_counted, od__is_counted, .func (PySem.W.fnOf "_is_counted" "_is_counted" (defArgs s__is_counted) (defBody s__is_counted) (defScope s__is_counted) .none kV__is_counted dc__is_counted pm__is_counted an__is_counted cd__is_counted ct__is_counted), sl__is_counted⟩) (c__is_counted : PySem.W.codeIn K cd__is_counted "_is_counted" = true) (k__is_counted : PySem.W.keepIn K (.ref f__is_counted) = true)
      (b__is_counted : ∀ (kV dc pm : Value) (an : Option Addr) (cdv ct : Value) (us : List Value), us.length = p__is_counted.length → bindArgs (PySem.W.fnOf "_is_counted" "_is_counted" (defArgs s__is_counted) (defBody s__is_counted) (defScope s__is_counted) .none kV dc pm an cdv ct) ⟨us, []⟩ = pure (p__is_counted.zip us))
    (a_check_value : PySem.W.nsIn K mainGlobals "check_value" = some (some (.ref f_check_value))) (l_check_value : K.lookup f_check_value = some ⟨oc_check_value, od_check_value, .func (PySem.W.fnOf "check_value" "check_value" (defArgs s_check_value) (defBody s_check_value) (defScope s_check_value) .none kV_check_value dc_check_value pm_check_value an_check_value cd_check_value ct_check_value), sl_check_value⟩) (c_check_value : PySem.W.codeIn K cd_check_value "check_value" = true) (k_check_value : PySem.W.keepIn K (.ref f_check_value) = true)
      (b_check_value : ∀ (kV dc pm : Value) (an : Option Addr) (cdv ct : Value) (us : List Value), us.length = p_check_value.length → bindArgs (PySem.W.fnOf "check_value" "check_value" (defArgs s_check_value) (defBody s_check_value) (defScope s_check_value) .none kV dc pm an cdv ct) ⟨us, []⟩ = pure (p_check_value.zip us))
    (a__check_data_kind : PySem.W.nsIn K mainGlobals "_check_data_kind" = some (some (.ref f__check_data_kind))) (l__check_data_kind : K.lookup f__check_data_kind = some ⟨oc__check_data_kind, od__check_data_kind, .func (PySem.W.fnOf "_check_data_kind" "_check_data_kind" (defArgs s__check_data_kind) (defBody s__check_data_kind) (defScope s__check_data_kind) .none kV__check_data_kind dc__check_data_kind pm__check_data_kind an__check_data_kind cd__check_data_kind ct__check_data_kind), sl__check_data_kind⟩) (c__check_data_kind : PySem.W.codeIn K cd__check_data_kind "_check_data_kind" = true) (k__check_data_kind : PySem.W.keepIn K (.ref f__check_data_kind) = true)
      (b__check_data_kind : ∀ (kV dc pm : Value) (an : Option Addr) (cdv ct : Value) (us : List Value), us.length = p__check_data_kind.length → bindArgs (PySem.W.fnOf "_check_data_kind" "_check_data_kind" (defArgs s__check_data_kind) (defBody s__check_data_kind) (defScope s__check_data_kind) .none kV dc pm an cdv ct) ⟨us, []⟩ = pure (p__check_data_kind.zip us))
    (a__check_all : PySem.W.nsIn K mainGlobals "_check_all" = some (some (.ref f__check_all))) (l__check_all : K.lookup f__check_all = some ⟨oc__check_all, od__check_all, .func (PySem.W.fnOf "_check_all" "_check_all" (defArgs s__check_all) (defBody s__check_all) (defScope s__check_all) .none kV__check_all dc__check_all pm__check_all an__check_all cd__check_all ct__check_all), sl__check_all⟩) (c__check_all : PySem.W.codeIn K cd__check_all "_check_all" = true) (k__check_all : PySem.W.keepIn K (.ref f__check_all) = true)
      (b__check_all : ∀ (kV dc pm : Value) (an : Option Addr) (cdv ct : Value) (us : List Value), us.length = p__check_all.length → bindArgs (PySem.W.fnOf "_check_all" "_check_all" (defArgs s__check_all) (defBody s__check_all) (defScope s__check_all) .none kV dc pm an cdv ct) ⟨us, []⟩ = pure (p__check_all.zip us))
    (a_fits : PySem.W.nsIn K mainGlobals "fits" = some (some (.ref f_fits))) (l_fits : K.lookup f_fits = some ⟨oc_fits, od_fits, .func (PySem.W.fnOf "fits" "fits" (defArgs s_fits) (defBody s_fits) (defScope s_fits) .none kV_fits dc_fits pm_fits an_fits cd_fits ct_fits), sl_fits⟩) (c_fits : PySem.W.codeIn K cd_fits "fits" = true) (k_fits : PySem.W.keepIn K (.ref f_fits) = true)
      (b_fits : ∀ (kV dc pm : Value) (an : Option Addr) (cdv ct : Value) (us : List Value), us.length = p_fits.length → bindArgs (PySem.W.fnOf "fits" "fits" (defArgs s_fits) (defBody s_fits) (defScope s_fits) .none kV dc pm an cdv ct) ⟨us, []⟩ = pure (p_fits.zip us))
    (a_led : PySem.W.nsIn K mainGlobals "led" = some (some (.ref f_led))) (l_led : K.lookup f_led = some ⟨oc_led, od_led, .func (PySem.W.fnOf "led" "led" (defArgs s_led) (defBody s_led) (defScope s_led) .none kV_led dc_led pm_led an_led cd_led ct_led), sl_led⟩) (c_led : PySem.W.codeIn K cd_led "led" = true) (k_led : PySem.W.keepIn K (.ref f_led) = true)
      (b_led : ∀ (kV dc pm : Value) (an : Option Addr) (cdv ct : Value) (us : List Value), us.length = p_led.length → bindArgs (PySem.W.fnOf "led" "led" (defArgs s_led) (defBody s_led) (defScope s_led) .none kV dc pm an cdv ct) ⟨us, []⟩ = pure (p_led.zip us))
    (a_nothing : PySem.W.nsIn K mainGlobals "nothing" = some (some (.ref f_nothing))) (l_nothing : K.lookup f_nothing = some ⟨oc_nothing, od_nothing, .func (PySem.W.fnOf "nothing" "nothing" (defArgs s_nothing) (defBody s_nothing) (defScope s_nothing) .none kV_nothing dc_nothing pm_nothing an_nothing cd_nothing ct_nothing), sl_nothing⟩) (c_nothing : PySem.W.codeIn K cd_nothing "nothing" = true) (k_nothing : PySem.W.keepIn K (.ref f_nothing) = true)
      (b_nothing : ∀ (kV dc pm : Value) (an : Option Addr) (cdv ct : Value) (us : List Value), us.length = p_nothing.length → bindArgs (PySem.W.fnOf "nothing" "nothing" (defArgs s_nothing) (defBody s_nothing) (defScope s_nothing) .none kV dc pm an cdv ct) ⟨us, []⟩ = pure (p_nothing.zip us))
    (a_changes_nothing : PySem.W.nsIn K mainGlobals "changes_nothing" = some (some (.ref f_changes_nothing))) (l_changes_nothing : K.lookup f_changes_nothing = some ⟨oc_changes_nothing, od_changes_nothing, .func (PySem.W.fnOf "changes_nothing" "changes_nothing" (defArgs s_changes_nothing) (defBody s_changes_nothing) (defScope s_changes_nothing) .none kV_changes_nothing dc_changes_nothing pm_changes_nothing an_changes_nothing cd_changes_nothing ct_changes_nothing), sl_changes_nothing⟩) (c_changes_nothing : PySem.W.codeIn K cd_changes_nothing "changes_nothing" = true) (k_changes_nothing : PySem.W.keepIn K (.ref f_changes_nothing) = true)
      (b_changes_nothing : ∀ (kV dc pm : Value) (an : Option Addr) (cdv ct : Value) (us : List Value), us.length = p_changes_nothing.length → bindArgs (PySem.W.fnOf "changes_nothing" "changes_nothing" (defArgs s_changes_nothing) (defBody s_changes_nothing) (defScope s_changes_nothing) .none kV dc pm an cdv ct) ⟨us, []⟩ = pure (p_changes_nothing.zip us))
    (a__check_fitting : PySem.W.nsIn K mainGlobals "_check_fitting" = some (some (.ref f__check_fitting))) (l__check_fitting : K.lookup f__check_fitting = some ⟨oc__check_fitting, od__check_fitting, .func (PySem.W.fnOf "_check_fitting" "_check_fitting" (defArgs s__check_fitting) (defBody s__check_fitting) (defScope s__check_fitting) .none kV__check_fitting dc__check_fitting pm__check_fitting an__check_fitting cd__check_fitting ct__check_fitting), sl__check_fitting⟩) (c__check_fitting : PySem.W.codeIn K cd__check_fitting "_check_fitting" = true) (k__check_fitting : PySem.W.keepIn K (.ref f__check_fitting) = true)
      (b__check_fitting : ∀ (kV dc pm : Value) (an : Option Addr) (cdv ct : Value) (us : List Value), us.length = p__check_fitting.length → bindArgs (PySem.W.fnOf "_check_fitting" "_check_fitting" (defArgs s__check_fitting) (defBody s__check_fitting) (defScope s__check_fitting) .none kV dc pm an cdv ct) ⟨us, []⟩ = pure (p__check_fitting.zip us))
    (a_joined : PySem.W.nsIn K mainGlobals "joined" = some (some (.ref f_joined))) (l_joined : K.lookup f_joined = some ⟨oc_joined, od_joined, .func (PySem.W.fnOf "joined" "joined" (defArgs s_joined) (defBody s_joined) (defScope s_joined) .none kV_joined dc_joined pm_joined an_joined cd_joined ct_joined), sl_joined⟩) (c_joined : PySem.W.codeIn K cd_joined "joined" = true) (k_joined : PySem.W.keepIn K (.ref f_joined) = true)
      (b_joined : ∀ (kV dc pm : Value) (an : Option Addr) (cdv ct : Value) (us : List Value), us.length = p_joined.length → bindArgs (PySem.W.fnOf "joined" "joined" (defArgs s_joined) (defBody s_joined) (defScope s_joined) .none kV dc pm an cdv ct) ⟨us, []⟩ = pure (p_joined.zip us))
    (a_back : PySem.W.nsIn K mainGlobals "back" = some (some (.ref f_back))) (l_back : K.lookup f_back = some ⟨oc_back, od_back, .func (PySem.W.fnOf "back" "back" (defArgs s_back) (defBody s_back) (defScope s_back) .none kV_back dc_back pm_back an_back cd_back ct_back), sl_back⟩) (c_back : PySem.W.codeIn K cd_back "back" = true) (k_back : PySem.W.keepIn K (.ref f_back) = true)
      (b_back : ∀ (kV dc pm : Value) (an : Option Addr) (cdv ct : Value) (us : List Value), us.length = p_back.length → bindArgs (PySem.W.fnOf "back" "back" (defArgs s_back) (defBody s_back) (defScope s_back) .none kV dc pm an cdv ct) ⟨us, []⟩ = pure (p_back.zip us))
    (a__law_urn : PySem.W.nsIn K mainGlobals "_law_urn" = some (some (.ref f__law_urn))) (l__law_urn : K.lookup f__law_urn = some ⟨oc__law_urn, od__law_urn, .func (PySem.W.fnOf "_law_urn" "_law_urn" (defArgs s__law_urn) (defBody s__law_urn) (defScope s__law_urn) .none kV__law_urn dc__law_urn pm__law_urn an__law_urn cd__law_urn ct__law_urn), sl__law_urn⟩) (c__law_urn : PySem.W.codeIn K cd__law_urn "_law_urn" = true) (k__law_urn : PySem.W.keepIn K (.ref f__law_urn) = true)
      (b__law_urn : ∀ (kV dc pm : Value) (an : Option Addr) (cdv ct : Value) (us : List Value), us.length = p__law_urn.length → bindArgs (PySem.W.fnOf "_law_urn" "_law_urn" (defArgs s__law_urn) (defBody s__law_urn) (defScope s__law_urn) .none kV dc pm an cdv ct) ⟨us, []⟩ = pure (p__law_urn.zip us))
    (a__law_pull : PySem.W.nsIn K mainGlobals "_law_pull" = some (some (.ref f__law_pull))) (l__law_pull : K.lookup f__law_pull = some ⟨oc__law_pull, od__law_pull, .func (PySem.W.fnOf "_law_pull" "_law_pull" (defArgs s__law_pull) (defBody s__law_pull) (defScope s__law_pull) .none kV__law_pull dc__law_pull pm__law_pull an__law_pull cd__law_pull ct__law_pull), sl__law_pull⟩) (c__law_pull : PySem.W.codeIn K cd__law_pull "_law_pull" = true) (k__law_pull : PySem.W.keepIn K (.ref f__law_pull) = true)
      (b__law_pull : ∀ (kV dc pm : Value) (an : Option Addr) (cdv ct : Value) (us : List Value), us.length = p__law_pull.length → bindArgs (PySem.W.fnOf "_law_pull" "_law_pull" (defArgs s__law_pull) (defBody s__law_pull) (defScope s__law_pull) .none kV dc pm an cdv ct) ⟨us, []⟩ = pure (p__law_pull.zip us))
    (a__law_one : PySem.W.nsIn K mainGlobals "_law_one" = some (some (.ref f__law_one))) (l__law_one : K.lookup f__law_one = some ⟨oc__law_one, od__law_one, .func (PySem.W.fnOf "_law_one" "_law_one" (defArgs s__law_one) (defBody s__law_one) (defScope s__law_one) .none kV__law_one dc__law_one pm__law_one an__law_one cd__law_one ct__law_one), sl__law_one⟩) (c__law_one : PySem.W.codeIn K cd__law_one "_law_one" = true) (k__law_one : PySem.W.keepIn K (.ref f__law_one) = true)
      (b__law_one : ∀ (kV dc pm : Value) (an : Option Addr) (cdv ct : Value) (us : List Value), us.length = p__law_one.length → bindArgs (PySem.W.fnOf "_law_one" "_law_one" (defArgs s__law_one) (defBody s__law_one) (defScope s__law_one) .none kV dc pm an cdv ct) ⟨us, []⟩ = pure (p__law_one.zip us))
    (a__law_is : PySem.W.nsIn K mainGlobals "_law_is" = some (some (.ref f__law_is))) (l__law_is : K.lookup f__law_is = some ⟨oc__law_is, od__law_is, .func (PySem.W.fnOf "_law_is" "_law_is" (defArgs s__law_is) (defBody s__law_is) (defScope s__law_is) .none kV__law_is dc__law_is pm__law_is an__law_is cd__law_is ct__law_is), sl__law_is⟩) (c__law_is : PySem.W.codeIn K cd__law_is "_law_is" = true) (k__law_is : PySem.W.keepIn K (.ref f__law_is) = true)
      (b__law_is : ∀ (kV dc pm : Value) (an : Option Addr) (cdv ct : Value) (us : List Value), us.length = p__law_is.length → bindArgs (PySem.W.fnOf "_law_is" "_law_is" (defArgs s__law_is) (defBody s__law_is) (defScope s__law_is) .none kV dc pm an cdv ct) ⟨us, []⟩ = pure (p__law_is.zip us))
    (a__law_truth : PySem.W.nsIn K mainGlobals "_law_truth" = some (some (.ref f__law_truth))) (l__law_truth : K.lookup f__law_truth = some ⟨oc__law_truth, od__law_truth, .func (PySem.W.fnOf "_law_truth" "_law_truth" (defArgs s__law_truth) (defBody s__law_truth) (defScope s__law_truth) .none kV__law_truth dc__law_truth pm__law_truth an__law_truth cd__law_truth ct__law_truth), sl__law_truth⟩) (c__law_truth : PySem.W.codeIn K cd__law_truth "_law_truth" = true) (k__law_truth : PySem.W.keepIn K (.ref f__law_truth) = true)
      (b__law_truth : ∀ (kV dc pm : Value) (an : Option Addr) (cdv ct : Value) (us : List Value), us.length = p__law_truth.length → bindArgs (PySem.W.fnOf "_law_truth" "_law_truth" (defArgs s__law_truth) (defBody s__law_truth) (defScope s__law_truth) .none kV dc pm an cdv ct) ⟨us, []⟩ = pure (p__law_truth.zip us))
    (a__law_plain_kind : PySem.W.nsIn K mainGlobals "_law_plain_kind" = some (some (.ref f__law_plain_kind))) (l__law_plain_kind : K.lookup f__law_plain_kind = some ⟨oc__law_plain_kind, od__law_plain_kind, .func (PySem.W.fnOf "_law_plain_kind" "_law_plain_kind" (defArgs s__law_plain_kind) (defBody s__law_plain_kind) (defScope s__law_plain_kind) .none kV__law_plain_kind dc__law_plain_kind pm__law_plain_kind an__law_plain_kind cd__law_plain_kind ct__law_plain_kind), sl__law_plain_kind⟩) (c__law_plain_kind : PySem.W.codeIn K cd__law_plain_kind "_law_plain_kind" = true) (k__law_plain_kind : PySem.W.keepIn K (.ref f__law_plain_kind) = true)
      (b__law_plain_kind : ∀ (kV dc pm : Value) (an : Option Addr) (cdv ct : Value) (us : List Value), us.length = p__law_plain_kind.length → bindArgs (PySem.W.fnOf "_law_plain_kind" "_law_plain_kind" (defArgs s__law_plain_kind) (defBody s__law_plain_kind) (defScope s__law_plain_kind) .none kV dc pm an cdv ct) ⟨us, []⟩ = pure (p__law_plain_kind.zip us))
    (a__law_data_kind : PySem.W.nsIn K mainGlobals "_law_data_kind" = some (some (.ref f__law_data_kind))) (l__law_data_kind : K.lookup f__law_data_kind = some ⟨oc__law_data_kind, od__law_data_kind, .func (PySem.W.fnOf "_law_data_kind" "_law_data_kind" (defArgs s__law_data_kind) (defBody s__law_data_kind) (defScope s__law_data_kind) .none kV__law_data_kind dc__law_data_kind pm__law_data_kind an__law_data_kind cd__law_data_kind ct__law_data_kind), sl__law_data_kind⟩) (c__law_data_kind : PySem.W.codeIn K cd__law_data_kind "_law_data_kind" = true) (k__law_data_kind : PySem.W.keepIn K (.ref f__law_data_kind) = true)
      (b__law_data_kind : ∀ (kV dc pm : Value) (an : Option Addr) (cdv ct : Value) (us : List Value), us.length = p__law_data_kind.length → bindArgs (PySem.W.fnOf "_law_data_kind" "_law_data_kind" (defArgs s__law_data_kind) (defBody s__law_data_kind) (defScope s__law_data_kind) .none kV dc pm an cdv ct) ⟨us, []⟩ = pure (p__law_data_kind.zip us))
    (a__law_bag : PySem.W.nsIn K mainGlobals "_law_bag" = some (some (.ref f__law_bag))) (l__law_bag : K.lookup f__law_bag = some ⟨oc__law_bag, od__law_bag, .func (PySem.W.fnOf "_law_bag" "_law_bag" (defArgs s__law_bag) (defBody s__law_bag) (defScope s__law_bag) .none kV__law_bag dc__law_bag pm__law_bag an__law_bag cd__law_bag ct__law_bag), sl__law_bag⟩) (c__law_bag : PySem.W.codeIn K cd__law_bag "_law_bag" = true) (k__law_bag : PySem.W.keepIn K (.ref f__law_bag) = true)
      (b__law_bag : ∀ (kV dc pm : Value) (an : Option Addr) (cdv ct : Value) (us : List Value), us.length = p__law_bag.length → bindArgs (PySem.W.fnOf "_law_bag" "_law_bag" (defArgs s__law_bag) (defBody s__law_bag) (defScope s__law_bag) .none kV dc pm an cdv ct) ⟨us, []⟩ = pure (p__law_bag.zip us))
    (a__law_whole : PySem.W.nsIn K mainGlobals "_law_whole" = some (some (.ref f__law_whole))) (l__law_whole : K.lookup f__law_whole = some ⟨oc__law_whole, od__law_whole, .func (PySem.W.fnOf "_law_whole" "_law_whole" (defArgs s__law_whole) (defBody s__law_whole) (defScope s__law_whole) .none kV__law_whole dc__law_whole pm__law_whole an__law_whole cd__law_whole ct__law_whole), sl__law_whole⟩) (c__law_whole : PySem.W.codeIn K cd__law_whole "_law_whole" = true) (k__law_whole : PySem.W.keepIn K (.ref f__law_whole) = true)
      (b__law_whole : ∀ (kV dc pm : Value) (an : Option Addr) (cdv ct : Value) (us : List Value), us.length = p__law_whole.length → bindArgs (PySem.W.fnOf "_law_whole" "_law_whole" (defArgs s__law_whole) (defBody s__law_whole) (defScope s__law_whole) .none kV dc pm an cdv ct) ⟨us, []⟩ = pure (p__law_whole.zip us))
    (a__law_value : PySem.W.nsIn K mainGlobals "_law_value" = some (some (.ref f__law_value))) (l__law_value : K.lookup f__law_value = some ⟨oc__law_value, od__law_value, .func (PySem.W.fnOf "_law_value" "_law_value" (defArgs s__law_value) (defBody s__law_value) (defScope s__law_value) .none kV__law_value dc__law_value pm__law_value an__law_value cd__law_value ct__law_value), sl__law_value⟩) (c__law_value : PySem.W.codeIn K cd__law_value "_law_value" = true) (k__law_value : PySem.W.keepIn K (.ref f__law_value) = true)
      (b__law_value : ∀ (kV dc pm : Value) (an : Option Addr) (cdv ct : Value) (us : List Value), us.length = p__law_value.length → bindArgs (PySem.W.fnOf "_law_value" "_law_value" (defArgs s__law_value) (defBody s__law_value) (defScope s__law_value) .none kV dc pm an cdv ct) ⟨us, []⟩ = pure (p__law_value.zip us))
    (a__law_plus : PySem.W.nsIn K mainGlobals "_law_plus" = some (some (.ref f__law_plus))) (l__law_plus : K.lookup f__law_plus = some ⟨oc__law_plus, od__law_plus, .func (PySem.W.fnOf "_law_plus" "_law_plus" (defArgs s__law_plus) (defBody s__law_plus) (defScope s__law_plus) .none kV__law_plus dc__law_plus pm__law_plus an__law_plus cd__law_plus ct__law_plus), sl__law_plus⟩) (c__law_plus : PySem.W.codeIn K cd__law_plus "_law_plus" = true) (k__law_plus : PySem.W.keepIn K (.ref f__law_plus) = true)
      (b__law_plus : ∀ (kV dc pm : Value) (an : Option Addr) (cdv ct : Value) (us : List Value), us.length = p__law_plus.length → bindArgs (PySem.W.fnOf "_law_plus" "_law_plus" (defArgs s__law_plus) (defBody s__law_plus) (defScope s__law_plus) .none kV dc pm an cdv ct) ⟨us, []⟩ = pure (p__law_plus.zip us))
    (a__law_many : PySem.W.nsIn K mainGlobals "_law_many" = some (some (.ref f__law_many))) (l__law_many : K.lookup f__law_many = some ⟨oc__law_many, od__law_many, .func (PySem.W.fnOf "_law_many" "_law_many" (defArgs s__law_many) (defBody s__law_many) (defScope s__law_many) .none kV__law_many dc__law_many pm__law_many an__law_many cd__law_many ct__law_many), sl__law_many⟩) (c__law_many : PySem.W.codeIn K cd__law_many "_law_many" = true) (k__law_many : PySem.W.keepIn K (.ref f__law_many) = true)
      (b__law_many : ∀ (kV dc pm : Value) (an : Option Addr) (cdv ct : Value) (us : List Value), us.length = p__law_many.length → bindArgs (PySem.W.fnOf "_law_many" "_law_many" (defArgs s__law_many) (defBody s__law_many) (defScope s__law_many) .none kV dc pm an cdv ct) ⟨us, []⟩ = pure (p__law_many.zip us))
    (a__law_led : PySem.W.nsIn K mainGlobals "_law_led" = some (some (.ref f__law_led))) (l__law_led : K.lookup f__law_led = some ⟨oc__law_led, od__law_led, .func (PySem.W.fnOf "_law_led" "_law_led" (defArgs s__law_led) (defBody s__law_led) (defScope s__law_led) .none kV__law_led dc__law_led pm__law_led an__law_led cd__law_led ct__law_led), sl__law_led⟩) (c__law_led : PySem.W.codeIn K cd__law_led "_law_led" = true) (k__law_led : PySem.W.keepIn K (.ref f__law_led) = true)
      (b__law_led : ∀ (kV dc pm : Value) (an : Option Addr) (cdv ct : Value) (us : List Value), us.length = p__law_led.length → bindArgs (PySem.W.fnOf "_law_led" "_law_led" (defArgs s__law_led) (defBody s__law_led) (defScope s__law_led) .none kV dc pm an cdv ct) ⟨us, []⟩ = pure (p__law_led.zip us))
    (a__law_less : PySem.W.nsIn K mainGlobals "_law_less" = some (some (.ref f__law_less))) (l__law_less : K.lookup f__law_less = some ⟨oc__law_less, od__law_less, .func (PySem.W.fnOf "_law_less" "_law_less" (defArgs s__law_less) (defBody s__law_less) (defScope s__law_less) .none kV__law_less dc__law_less pm__law_less an__law_less cd__law_less ct__law_less), sl__law_less⟩) (c__law_less : PySem.W.codeIn K cd__law_less "_law_less" = true) (k__law_less : PySem.W.keepIn K (.ref f__law_less) = true)
      (b__law_less : ∀ (kV dc pm : Value) (an : Option Addr) (cdv ct : Value) (us : List Value), us.length = p__law_less.length → bindArgs (PySem.W.fnOf "_law_less" "_law_less" (defArgs s__law_less) (defBody s__law_less) (defScope s__law_less) .none kV dc pm an cdv ct) ⟨us, []⟩ = pure (p__law_less.zip us))
    (a__law_joined : PySem.W.nsIn K mainGlobals "_law_joined" = some (some (.ref f__law_joined))) (l__law_joined : K.lookup f__law_joined = some ⟨oc__law_joined, od__law_joined, .func (PySem.W.fnOf "_law_joined" "_law_joined" (defArgs s__law_joined) (defBody s__law_joined) (defScope s__law_joined) .none kV__law_joined dc__law_joined pm__law_joined an__law_joined cd__law_joined ct__law_joined), sl__law_joined⟩) (c__law_joined : PySem.W.codeIn K cd__law_joined "_law_joined" = true) (k__law_joined : PySem.W.keepIn K (.ref f__law_joined) = true)
      (b__law_joined : ∀ (kV dc pm : Value) (an : Option Addr) (cdv ct : Value) (us : List Value), us.length = p__law_joined.length → bindArgs (PySem.W.fnOf "_law_joined" "_law_joined" (defArgs s__law_joined) (defBody s__law_joined) (defScope s__law_joined) .none kV dc pm an cdv ct) ⟨us, []⟩ = pure (p__law_joined.zip us))
    (a__law_change : PySem.W.nsIn K mainGlobals "_law_change" = some (some (.ref f__law_change))) (l__law_change : K.lookup f__law_change = some ⟨oc__law_change, od__law_change, .func (PySem.W.fnOf "_law_change" "_law_change" (defArgs s__law_change) (defBody s__law_change) (defScope s__law_change) .none kV__law_change dc__law_change pm__law_change an__law_change cd__law_change ct__law_change), sl__law_change⟩) (c__law_change : PySem.W.codeIn K cd__law_change "_law_change" = true) (k__law_change : PySem.W.keepIn K (.ref f__law_change) = true)
      (b__law_change : ∀ (kV dc pm : Value) (an : Option Addr) (cdv ct : Value) (us : List Value), us.length = p__law_change.length → bindArgs (PySem.W.fnOf "_law_change" "_law_change" (defArgs s__law_change) (defBody s__law_change) (defScope s__law_change) .none kV dc pm an cdv ct) ⟨us, []⟩ = pure (p__law_change.zip us))
    (a__law_right : PySem.W.nsIn K mainGlobals "_law_right" = some (some (.ref f__law_right))) (l__law_right : K.lookup f__law_right = some ⟨oc__law_right, od__law_right, .func (PySem.W.fnOf "_law_right" "_law_right" (defArgs s__law_right) (defBody s__law_right) (defScope s__law_right) .none kV__law_right dc__law_right pm__law_right an__law_right cd__law_right ct__law_right), sl__law_right⟩) (c__law_right : PySem.W.codeIn K cd__law_right "_law_right" = true) (k__law_right : PySem.W.keepIn K (.ref f__law_right) = true)
      (b__law_right : ∀ (kV dc pm : Value) (an : Option Addr) (cdv ct : Value) (us : List Value), us.length = p__law_right.length → bindArgs (PySem.W.fnOf "_law_right" "_law_right" (defArgs s__law_right) (defBody s__law_right) (defScope s__law_right) .none kV dc pm an cdv ct) ⟨us, []⟩ = pure (p__law_right.zip us))
    (a_law : PySem.W.nsIn K mainGlobals "law" = some (some (.ref f_law))) (l_law : K.lookup f_law = some ⟨oc_law, od_law, .func (PySem.W.fnOf "law" "law" (defArgs s_law) (defBody s_law) (defScope s_law) .none kV_law dc_law pm_law an_law cd_law ct_law), sl_law⟩) (c_law : PySem.W.codeIn K cd_law "law" = true) (k_law : PySem.W.keepIn K (.ref f_law) = true)
      (b_law : ∀ (kV dc pm : Value) (an : Option Addr) (cdv ct : Value) (us : List Value), us.length = p_law.length → bindArgs (PySem.W.fnOf "law" "law" (defArgs s_law) (defBody s_law) (defScope s_law) .none kV dc pm an cdv ct) ⟨us, []⟩ = pure (p_law.zip us))
    (x0 : ∀ (kV dc pm : Value) (an : Option Addr) (cdv ct : Value) (us : List Value), us.length = 3 → bindArgs (PySem.W.fnOf "back" "back" (defArgs s_back) (defBody s_back) (defScope s_back) .none kV dc pm an cdv ct) ⟨[], List.zip (["change", "value", "kind"] : List Str) us⟩ = pure (p_back.zip (pick [2, 1, 0] 3 us)))
    (x1 : ∀ (kV dc pm : Value) (an : Option Addr) (cdv ct : Value) (us : List Value), us.length = 4 → bindArgs (PySem.W.fnOf "joined" "joined" (defArgs s_joined) (defBody s_joined) (defScope s_joined) .none kV dc pm an cdv ct) ⟨[], List.zip (["two", "one", "value", "kind"] : List Str) us⟩ = pure (p_joined.zip (pick [3, 2, 1, 0] 4 us)))
    (hb : ∀ (s : Shared) (v : Value), BindsTo s (PySem.W.fnOf "law" "law" (defArgs s_law) (defBody s_law) (defScope s_law) .none kV_law dc_law pm_law an_law cd_law ct_law) ⟨[v], []⟩ [("_law_script", v)]) :
    ∃ fd : FuncData, (∀ (s : Shared) (u : Value), BindsTo s fd ⟨[u], []⟩ [("_law_script", u)]) ∧ ∀ base : Heap, K.In base → base.Ns mainGlobals mg → GOk P w K mg base N0 fa fd ["_law_script"] (spM K 1 (m_law N0)) := by
  have e := hfa.symm.trans (PySem.W.mg_of X G a_law)
  cases e
  refine ⟨_, hb, fun base _ _ => ?_⟩
  have B : B0 mg := ⟨PySem.W.mg_none_of X G z0, PySem.W.mg_none_of X G z1, PySem.W.mg_none_of X G z2, PySem.W.mg_none_of X G z3, PySem.W.mg_none_of X G z4, PySem.W.mg_none_of X G z5, PySem.W.mg_none_of X G z6, PySem.W.mg_none_of X G z7, PySem.W.mg_none_of X G z8, PySem.W.mg_none_of X G z9, PySem.W.mg_none_of X G z10, PySem.W.mg_none_of X G z11, PySem.W.mg_none_of X G z12, PySem.W.mg_none_of X G z13, PySem.W.mg_none_of X G z14⟩
  exact (all_ok (w := w) B (dfn_mk X G a__has_form l__has_form c__has_form k__has_form b__has_form) (dfn_mk X G a__is_made_of l__is_made_of c__is_made_of k__is_made_of b__is_made_of) (dfn_mk X G a__is_kind_within l__is_kind_within c__is_kind_within k__is_kind_within b__is_kind_within) (dfn_mk X G a_is_kind l_is_kind c_is_kind k_is_kind b_is_kind) (dfn_mk X G a_is_known_data l_is_known_data c_is_known_data k_is_known_data b_is_known_data) (dfn_mk X G a_is_data_kind l_is_data_kind c_is_data_kind k_is_data_kind b_is_data_kind) (dfn_mk X G a_gathered l_gathered c_gathered k_gathered b_gathered) (dfn_mk X G a_plus_in l_plus_in c_plus_in k_plus_in b_plus_in) (dfn_mk X G a__bag_times l__bag_times c__bag_times k__bag_times b__bag_times) (dfn_mk X G a_times_in l_times_in c_times_in k_times_in b_times_in) (dfn_mk X G a_kind_of_changes l_kind_of_changes c_kind_of_changes k_kind_of_changes b_kind_of_changes) (dfn_mk X G a__side_kind l__side_kind c__side_kind k__side_kind b__side_kind) (dfn_mk X G a_fits_in l_fits_in c_fits_in k_fits_in b_fits_in) (dfn_mk X G a_led_in l_led_in c_led_in k_led_in b_led_in) (dfn_mk X G a__led_side l__led_side c__led_side k__led_side b__led_side) (dfn_mk X G a_less_in l_less_in c_less_in k_less_in b_less_in) (dfn_mk X G a_joined_in l_joined_in c_joined_in k_joined_in b_joined_in) (dfn_mk X G a__joined_sides l__joined_sides c__joined_sides k__joined_sides b__joined_sides) (dfn_mk X G a_back_in l_back_in c_back_in k_back_in b_back_in) (dfn_mk X G a_is_whole l_is_whole c_is_whole k_is_whole b_is_whole) (dfn_mk X G a__begins l__begins c__begins k__begins b__begins) (dfn_mk X G a_is_of l_is_of c_is_of k_is_of b_is_of) (dfn_mk X G a__is_bag l__is_bag c__is_bag k__is_bag b__is_bag) (dfn_mk X G a__is_counted l__is_counted c__is_counted k__is_counted b__is_counted) (dfn_mk X G a_check_value l_check_value c_check_value k_check_value b_check_value) (dfn_mk X G a__check_data_kind l__check_data_kind c__check_data_kind k__check_data_kind b__check_data_kind) (dfn_mk X G a__check_all l__check_all c__check_all k__check_all b__check_all) (dfn_mk X G a_fits l_fits c_fits k_fits b_fits) (dfn_mk X G a_led l_led c_led k_led b_led) (dfn_mk X G a_nothing l_nothing c_nothing k_nothing b_nothing) (dfn_mk X G a_changes_nothing l_changes_nothing c_changes_nothing k_changes_nothing b_changes_nothing) (dfn_mk X G a__check_fitting l__check_fitting c__check_fitting k__check_fitting b__check_fitting) (dfn_mk X G a_joined l_joined c_joined k_joined b_joined) (dfn_mk X G a_back l_back c_back k_back b_back) (dfn_mk X G a__law_urn l__law_urn c__law_urn k__law_urn b__law_urn) (dfn_mk X G a__law_pull l__law_pull c__law_pull k__law_pull b__law_pull) (dfn_mk X G a__law_one l__law_one c__law_one k__law_one b__law_one) (dfn_mk X G a__law_is l__law_is c__law_is k__law_is b__law_is) (dfn_mk X G a__law_truth l__law_truth c__law_truth k__law_truth b__law_truth) (dfn_mk X G a__law_plain_kind l__law_plain_kind c__law_plain_kind k__law_plain_kind b__law_plain_kind) (dfn_mk X G a__law_data_kind l__law_data_kind c__law_data_kind k__law_data_kind b__law_data_kind) (dfn_mk X G a__law_bag l__law_bag c__law_bag k__law_bag b__law_bag) (dfn_mk X G a__law_whole l__law_whole c__law_whole k__law_whole b__law_whole) (dfn_mk X G a__law_value l__law_value c__law_value k__law_value b__law_value) (dfn_mk X G a__law_plus l__law_plus c__law_plus k__law_plus b__law_plus) (dfn_mk X G a__law_many l__law_many c__law_many k__law_many b__law_many) (dfn_mk X G a__law_led l__law_led c__law_led k__law_led b__law_led) (dfn_mk X G a__law_less l__law_less c__law_less k__law_less b__law_less) (dfn_mk X G a__law_joined l__law_joined c__law_joined k__law_joined b__law_joined) (dfn_mk X G a__law_change l__law_change c__law_change k__law_change b__law_change) (dfn_mk X G a__law_right l__law_right c__law_right k__law_right b__law_right) (dfn_mk X G a_law l_law c_law k_law b_law)
    (kb_mk (ks := ["change", "value", "kind"]) (by decide) fun ws hw => x0 _ _ _ _ _ _ ws hw) (kb_mk (ks := ["two", "one", "value", "kind"]) (by decide) fun ws hw => x1 _ _ _ _ _ _ ws hw) ⟨PySem.W.mg_of X G ca0, fun H => (tupK tl0_0 tz0_0 tv0_0 H (.cons (.str _) (.cons (.str _) (.cons (.str _) (.cons (.str _) (.cons (.str _) .nil))))))⟩ (PySem.W.mg_of X G ca1) ⟨⟨cl2, ck2, cz2⟩, tab_kt ⟨cl2, ck2, cz2⟩ ci2, PySem.W.mg_of X G ca2⟩ ⟨PySem.W.mg_of X G ca3, fun H => (tupK tl3_0 tz3_0 tv3_0 H (.cons (.str _) (.cons (.str _) (.cons (.str _) (.cons (.str _) .nil)))))⟩ base N0).2.2.2.2.2.2.2.2.2.2.2.2.2.2.2.2.2.2.2.2.2.2.2.2.2.2.2.2.2.2.2.2.2.2.2.2.2.2.2.2.2.2.2.2.2.2.2.2.2.2.2
end N25
section
open M
local macro_rules | `(tactic| walk_at "q1") => `(tactic| (first
  | with_reducible refine q_seq ?_ | with_reducible refine q_sif ?_ | with_reducible refine q_asg ?_ | with_reducible refine q_ret ?_ | with_reducible refine q_next ?_ | with_reducible refine q_drop ?_ | with_reducible refine q_for ?_ | with_reducible refine q_par ?_ | with_reducible refine q_par3 ?_
  | ((with_reducible refine' q_var ?k1 ?_); (case k1 => rfl)) | with_reducible refine q_c ?_ | with_reducible refine q_op ?_ | with_reducible refine q_un ?_ | with_reducible refine q_cons ?_ | with_reducible refine q_nil ?_ | with_reducible refine q_cb ?_ | with_reducible refine q_ty ?_
  | with_reducible refine q_test ?_ | with_reducible refine q_if ?_ | with_reducible refine q_tup ?_ | with_reducible refine q_lst ?_ | with_reducible refine q_and ?_ | with_reducible refine q_or ?_ | with_reducible refine q_not ?_ | with_reducible refine q_andV ?_ | with_reducible refine q_orV ?_ | with_reducible refine q_notV ?_
  | with_reducible refine q_call ?_ | with_reducible refine q_callN ?_ | with_reducible refine q_sl ?_ | with_reducible refine q_onone ?_ | with_reducible refine q_osome ?_ | with_reducible refine q_gname ?_ | with_reducible refine q_gcons ?_ | with_reducible refine q_gnil ?_ | with_reducible refine q_gconsM ?_ | with_reducible refine q_gnilM ?_ | with_reducible refine q_gsub ?_ | ((with_reducible refine' q_gtup ?k1 ?_); (case k1 => rfl))
  | with_reducible refine q_leave ?_ | with_reducible refine q_yes ?_ | with_reducible refine q_it ?_ | with_reducible refine q_if0 ?_ | with_reducible refine q_iR1 ?_ | with_reducible refine q_lstC ?_ | with_reducible refine q_tru ?_ | with_reducible refine q_lc ?_
  | with_reducible refine RP.eq paddi ?_ | with_reducible refine RP.eq psubi ?_ | with_reducible refine RP.eq pinti ?_ | with_reducible refine RP.eq pintb ?_ | with_reducible refine RP.eq pabsi ?_ | with_reducible refine RP.eq pnegi ?_ | with_reducible refine RP.eq peqs ?_ | with_reducible refine RP.eq peqi ?_
  | with_reducible refine RP.eq pnes ?_ | with_reducible refine RP.eq pnei ?_ | with_reducible refine RP.eq pgti ?_ | with_reducible refine RP.eq plei ?_ | with_reducible refine RP.eq pgei ?_ | with_reducible refine RP.eq plti ?_ | with_reducible refine RP.eq plent ?_ | with_reducible refine RP.eq plenl ?_
  | with_reducible refine RP.eq psltt ?_ | with_reducible refine RP.eq psltl ?_
  | ((with_reducible refine' RP.eq (pmuli ?k1) ?_); (case k1 => first | (unfold L2.CMul; omega) | (unfold L2.CMul; decide))) | ((with_reducible refine' RP.eq (pmodi ?k1) ?_); (case k1 => first | omega | decide)) | ((with_reducible refine' RP.eq (pfdivi ?k1) ?_); (case k1 => unfold L2.CDiv; omega)) | ((with_reducible refine' RP.eq (pdivmodi ?k1) ?_); (case k1 => unfold L2.CDiv; omega)) | ((with_reducible refine' RP.eq (pdivmodWi ?k1 ?k2) ?_); (case k1 => omega); (case k2 => omega)) | ((with_reducible refine' RP.eq (ppowi ?k1) ?_); (case k1 => unfold L2.CPow; decide))
  | with_reducible refine q_asB ?_ | ((with_reducible refine' q_allD ?k1 ?_); (case k1 => rfl))
  | with_reducible refine Z.r_nt ?_ | with_reducible refine Z.r_nf ?_
  | with_reducible refine RP.eq isi_int_none ?_ | with_reducible refine RP.eq isi_int_bool ?_ | with_reducible refine RP.eq isi_int_int ?_ | with_reducible refine RP.eq isi_int_str ?_ | with_reducible refine RP.eq isi_int_tuple ?_ | with_reducible refine RP.eq isi_int_list ?_ | with_reducible refine RP.eq isi_bool_none ?_ | with_reducible refine RP.eq isi_bool_bool ?_ | with_reducible refine RP.eq isi_bool_int ?_ | with_reducible refine RP.eq isi_bool_str ?_ | with_reducible refine RP.eq isi_bool_tuple ?_ | with_reducible refine RP.eq isi_bool_list ?_ | with_reducible refine RP.eq isi_tuple_none ?_ | with_reducible refine RP.eq isi_tuple_bool ?_ | with_reducible refine RP.eq isi_tuple_int ?_ | with_reducible refine RP.eq isi_tuple_str ?_ | with_reducible refine RP.eq isi_tuple_tuple ?_ | with_reducible refine RP.eq isi_tuple_list ?_ | with_reducible refine RP.eq isi_str_none ?_ | with_reducible refine RP.eq isi_str_bool ?_ | with_reducible refine RP.eq isi_str_int ?_ | with_reducible refine RP.eq isi_str_str ?_ | with_reducible refine RP.eq isi_str_tuple ?_ | with_reducible refine RP.eq isi_str_list ?_ | with_reducible refine RP.eq isi_list_none ?_ | with_reducible refine RP.eq isi_list_bool ?_ | with_reducible refine RP.eq isi_list_int ?_ | with_reducible refine RP.eq isi_list_str ?_ | with_reducible refine RP.eq isi_list_tuple ?_ | with_reducible refine RP.eq isi_list_list ?_
  | with_reducible refine RP.eq isi_int ?_ | with_reducible refine RP.eq isi_bool ?_ | with_reducible refine RP.eq isi_tuple ?_ | with_reducible refine RP.eq isi_str ?_ | with_reducible refine RP.eq isi_list ?_
  | ((with_reducible refine' q_len ?k1 ?_); (case k1 => rfl)) | ((with_reducible refine' RP.eq (paddt ?k1) ?_); (case k1 => exact Nat.le_of_ble_eq_true rfl))
  | ((with_reducible refine' q_lcons ?k1 ?_); (case k1 => rfl)) | ((with_reducible refine' q_lnil ?k1 ?_); (case k1 => rfl)) | with_reducible refine q_tab ?_ | with_reducible refine q_isTab ?_ | with_reducible refine q_noTab ?_ | with_reducible refine q_str1 ?_ | with_reducible refine q_int1 ?_
  | with_reducible refine RP.eq ptuplel ?_
  | with_reducible refine RP.eq pix0 ?_ | with_reducible refine RP.eq pix1 ?_ | with_reducible refine RP.eq pix2 ?_))
local macro_rules | `(tactic| walk_at "qq") => `(tactic| repeat walk_at "q1")
local macro_rules | `(tactic| walk_at "cell") => `(tactic| first | assumption | (apply M.set_at; walk_at "cell"))
local macro_rules | `(tactic| walk_at "qc") => `(tactic| repeat (first
  | walk_at "q1"
  | ((refine' M.cIx ?k1 ?k2 ?_); (case k1 => walk_at "cell"); (case k2 => rfl))
  | ((refine' M.cSet ?k1 ?k2 ?_); (case k1 => walk_at "cell"); (case k2 => rfl))))
local macro_rules | `(tactic| walk_at "ks") => `(tactic| first | (refine M.q_dec (fun hs => absurd hs (by decide +kernel)) (fun _ => ?_)) | (refine M.q_dec (fun _ => ?_) (fun hs => absurd rfl hs)) | (refine M.q_ndec (fun _ => ?_) (fun hs => absurd hs (by decide +kernel))) | (refine M.q_ndec (fun hs => absurd rfl hs) (fun _ => ?_)))
local macro_rules | `(tactic| walk_at "qk") => `(tactic| repeat (first
  | walk_at "q1"
  | ((refine' M.cIx ?k1 ?k2 ?_); (case k1 => walk_at "cell"); (case k2 => rfl))
  | ((refine' M.cSet ?k1 ?k2 ?_); (case k1 => walk_at "cell"); (case k2 => rfl))
  | walk_at "ks"))
namespace N25
open PySem PySem.Spec PyProof.Rows L2 Z M
/-- an urn among the cells -/
def WellC (j : Nat) (C : Cells) : Prop := ∃ a b c : Int, C[j]? = some (some [.int a, .int b, .int c]) ∧ 0 ≤ a ∧ 0 ≤ b ∧ b < 2147483563
def GoC (j : Nat) (C C' : Cells) : Prop := N25.WellC j C' ∧ ∃ w, C' = C.set j (some w)
theorem GoC.refl {j : Nat} {C : Cells} (h : N25.WellC j C) : N25.GoC j C C := by
  refine ⟨h, ?_⟩
  obtain ⟨a, b, c, e, _⟩ := h
  refine ⟨[.int a, .int b, .int c], List.ext_getElem? fun i => ?_⟩
  by_cases hi : j = i
  · subst hi
    rw [set_at e, e]
  · rw [List.getElem?_set_ne hi]
theorem GoC.trans {j : Nat} {C C1 C2 : Cells} (h : N25.GoC j C C1) (k : N25.GoC j C1 C2) : N25.GoC j C C2 := by
  obtain ⟨w, e⟩ := h.2
  obtain ⟨u, e2⟩ := k.2
  exact ⟨k.1, u, by rw [e2, e, List.set_set]⟩
theorem GoC.len {j : Nat} {C C1 : Cells} (h : N25.GoC j C C1) : C1.length = C.length := by
  obtain ⟨w, e⟩ := h.2
  rw [e, List.length_set]
theorem GoC.take {j : Nat} {C C1 : Cells} (h : N25.GoC j C C1) : C1.take C.length = C1 := List.take_of_length_le (by rw [h.len]; exact Nat.le_refl _)
theorem WellC.lt {j : Nat} {C : Cells} (h : N25.WellC j C) : j < C.length := by
  obtain ⟨a, b, c, e, _⟩ := h
  exact (List.getElem?_eq_some_iff.mp e).1
theorem WellC.app {j : Nat} {C D : Cells} (h : N25.WellC j C) : N25.WellC j (C ++ D) := by
  obtain ⟨a, b, c, e, r⟩ := h
  exact ⟨a, b, c, by rw [List.getElem?_append_left (List.getElem?_eq_some_iff.mp e).1]; exact e, r⟩
theorem GoC.app {j : Nat} {C D E : Cells} (hj : j < C.length) (h : N25.GoC j (C ++ D) E) : ∃ C', E = C' ++ D ∧ N25.GoC j C C' := by
  obtain ⟨⟨a, b, c, e, r⟩, w, e2⟩ := h
  rw [List.set_append_left _ _ hj] at e2
  subst e2
  refine ⟨C.set j (some w), rfl, ⟨a, b, c, ?_, r⟩, w, rfl⟩
  rw [List.getElem?_append_left (by rw [List.length_set]; exact hj)] at e
  exact e
theorem draw' {N j : Nat} {C : Cells} {m : Int} (hN : 1 ≤ N) (hw : N25.WellC j C) (h0 : 0 < m) (h1 : m < 2 ^ 60) :
    RE (m__law_pull N [.c j, .d (.int m)] C) fun v C' => ∃ i, v = .d (.int i) ∧ 0 ≤ i ∧ i < m ∧ N25.GoC j C C' := by
  obtain ⟨n, rfl⟩ : ∃ n, N = n + 1 := ⟨N - 1, by omega⟩
  obtain ⟨a, b, c, e, ha, hb, hb2⟩ := hw
  refine q_fun rfl ?_
  walk_at "qc"
  refine q_dec (fun hc => ?_) (fun hc => ?_)
  · walk_at "qc"
    rw [take_set]
    exact ⟨Int.emod_nonneg _ (by omega), Int.emod_lt_of_pos _ h0, ⟨_, b, c, set_at e, Int.ediv_nonneg ha (by omega), hb, hb2⟩, _, rfl⟩
  · walk_at "qc"
    rw [List.set_set, take_set]
    exact ⟨Int.emod_nonneg _ (by omega), Int.emod_lt_of_pos _ h0, ⟨a, _, _, set_at e, ha, Int.emod_nonneg _ (by omega), Int.emod_lt_of_pos _ (by omega)⟩, _, rfl⟩
theorem pick' {N j : Nat} {C : Cells} {ds : List PyData} (hN : 2 ≤ N) (hw : N25.WellC j C) (h0 : ds ≠ []) (h1 : ds.length ≤ 1000) :
    RE (m__law_one N [.c j, .d (.tuple ds)] C) fun v C' => ∃ d, d ∈ ds ∧ v = .d d ∧ N25.GoC j C C' := by
  obtain ⟨n, rfl⟩ : ∃ n, N = n + 1 := ⟨N - 1, by omega⟩
  have hp := List.length_pos_iff.mpr h0
  refine q_fun rfl ?_
  walk_at "qc"
  refine ⟨rfl, (draw' (by omega) hw (by omega) (by omega)).mono ?_⟩
  rintro _ C1 ⟨i, rfl, i0, i1, g⟩
  have hi : i.toNat < ds.length := by omega
  refine RP.eq (a := ds[i.toNat]) ?_ ?_
  · have z := ix1 C1 ds i.toNat _ (List.getElem?_eq_getElem hi)
    rwa [Int.toNat_of_nonneg i0] at z
  walk_at "qc"
  rw [g.take]
  exact ⟨_, List.getElem_mem hi, rfl, g⟩
theorem same' {N k m : Nat} {C : Cells} {x : PyData} (hN : 1 ≤ N) (h : Shows k m x) (hk : k ≤ 64) (hm : m ≤ 150000) : m__law_is N [.d x, .d x] C = some (.d (.bool true), C) := by
  obtain ⟨n, rfl⟩ : ∃ n, N = n + 1 := ⟨N - 1, by omega⟩
  refine RE.to (q_fun rfl ?_)
  walk_at "qc"
  refine RP.eq (prepr h.sh h.nd (Nat.le_trans h.dp hk) (h.fits hm)) ?_
  walk_at "qc"
  refine RP.eq (prepr h.sh h.nd (Nat.le_trans h.dp hk) (h.fits hm)) ?_
  walk_at "qc"
  rw [decide_eq_true rfl, List.take_length]
  exact ⟨rfl, rfl⟩
theorem truth_eq {N : Nat} {C : Cells} (hN : 1 ≤ N) : m__law_truth N [] C = some (.d (encK (.either .unit .unit)), C) := by
  obtain ⟨n, rfl⟩ : ∃ n, N = n + 1 := ⟨N - 1, by omega⟩
  refine RE.to (q_fun rfl ?_)
  walk_at "qc"
  rw [List.take_length]
  exact ⟨rfl, rfl⟩
end N25
end
section
open M
local macro_rules | `(tactic| walk_at "q1") => `(tactic| (first
  | with_reducible refine q_seq ?_ | with_reducible refine q_sif ?_ | with_reducible refine q_asg ?_ | with_reducible refine q_ret ?_ | with_reducible refine q_next ?_ | with_reducible refine q_drop ?_ | with_reducible refine q_for ?_ | with_reducible refine q_par ?_ | with_reducible refine q_par3 ?_
  | ((with_reducible refine' q_var ?k1 ?_); (case k1 => rfl)) | with_reducible refine q_c ?_ | with_reducible refine q_op ?_ | with_reducible refine q_un ?_ | with_reducible refine q_cons ?_ | with_reducible refine q_nil ?_ | with_reducible refine q_cb ?_ | with_reducible refine q_ty ?_
  | with_reducible refine q_test ?_ | with_reducible refine q_if ?_ | with_reducible refine q_tup ?_ | with_reducible refine q_lst ?_ | with_reducible refine q_and ?_ | with_reducible refine q_or ?_ | with_reducible refine q_not ?_ | with_reducible refine q_andV ?_ | with_reducible refine q_orV ?_ | with_reducible refine q_notV ?_
  | with_reducible refine q_call ?_ | with_reducible refine q_callN ?_ | with_reducible refine q_sl ?_ | with_reducible refine q_onone ?_ | with_reducible refine q_osome ?_ | with_reducible refine q_gname ?_ | with_reducible refine q_gcons ?_ | with_reducible refine q_gnil ?_ | with_reducible refine q_gconsM ?_ | with_reducible refine q_gnilM ?_ | with_reducible refine q_gsub ?_ | ((with_reducible refine' q_gtup ?k1 ?_); (case k1 => rfl))
  | with_reducible refine q_leave ?_ | with_reducible refine q_yes ?_ | with_reducible refine q_it ?_ | with_reducible refine q_if0 ?_ | with_reducible refine q_iR1 ?_ | with_reducible refine q_lstC ?_ | with_reducible refine q_tru ?_ | with_reducible refine q_lc ?_
  | with_reducible refine RP.eq paddi ?_ | with_reducible refine RP.eq psubi ?_ | with_reducible refine RP.eq pinti ?_ | with_reducible refine RP.eq pintb ?_ | with_reducible refine RP.eq pabsi ?_ | with_reducible refine RP.eq pnegi ?_ | with_reducible refine RP.eq peqs ?_ | with_reducible refine RP.eq peqi ?_
  | with_reducible refine RP.eq pnes ?_ | with_reducible refine RP.eq pnei ?_ | with_reducible refine RP.eq pgti ?_ | with_reducible refine RP.eq plei ?_ | with_reducible refine RP.eq pgei ?_ | with_reducible refine RP.eq plti ?_ | with_reducible refine RP.eq plent ?_ | with_reducible refine RP.eq plenl ?_
  | with_reducible refine RP.eq psltt ?_ | with_reducible refine RP.eq psltl ?_
  | ((with_reducible refine' RP.eq (pmuli ?k1) ?_); (case k1 => first | (unfold L2.CMul; omega) | (unfold L2.CMul; decide))) | ((with_reducible refine' RP.eq (pmodi ?k1) ?_); (case k1 => first | omega | decide)) | ((with_reducible refine' RP.eq (pfdivi ?k1) ?_); (case k1 => unfold L2.CDiv; omega)) | ((with_reducible refine' RP.eq (pdivmodi ?k1) ?_); (case k1 => unfold L2.CDiv; omega)) | ((with_reducible refine' RP.eq (pdivmodWi ?k1 ?k2) ?_); (case k1 => omega); (case k2 => omega)) | ((with_reducible refine' RP.eq (ppowi ?k1) ?_); (case k1 => unfold L2.CPow; decide))
  | with_reducible refine q_asB ?_ | ((with_reducible refine' q_allD ?k1 ?_); (case k1 => rfl))
  | with_reducible refine Z.r_nt ?_ | with_reducible refine Z.r_nf ?_
  | with_reducible refine RP.eq isi_int_none ?_ | with_reducible refine RP.eq isi_int_bool ?_ | with_reducible refine RP.eq isi_int_int ?_ | with_reducible refine RP.eq isi_int_str ?_ | with_reducible refine RP.eq isi_int_tuple ?_ | with_reducible refine RP.eq isi_int_list ?_ | with_reducible refine RP.eq isi_bool_none ?_ | with_reducible refine RP.eq isi_bool_bool ?_ | with_reducible refine RP.eq isi_bool_int ?_ | with_reducible refine RP.eq isi_bool_str ?_ | with_reducible refine RP.eq isi_bool_tuple ?_ | with_reducible refine RP.eq isi_bool_list ?_ | with_reducible refine RP.eq isi_tuple_none ?_ | with_reducible refine RP.eq isi_tuple_bool ?_ | with_reducible refine RP.eq isi_tuple_int ?_ | with_reducible refine RP.eq isi_tuple_str ?_ | with_reducible refine RP.eq isi_tuple_tuple ?_ | with_reducible refine RP.eq isi_tuple_list ?_ | with_reducible refine RP.eq isi_str_none ?_ | with_reducible refine RP.eq isi_str_bool ?_ | with_reducible refine RP.eq isi_str_int ?_ | with_reducible refine RP.eq isi_str_str ?_ | with_reducible refine RP.eq isi_str_tuple ?_ | with_reducible refine RP.eq isi_str_list ?_ | with_reducible refine RP.eq isi_list_none ?_ | with_reducible refine RP.eq isi_list_bool ?_ | with_reducible refine RP.eq isi_list_int ?_ | with_reducible refine RP.eq isi_list_str ?_ | with_reducible refine RP.eq isi_list_tuple ?_ | with_reducible refine RP.eq isi_list_list ?_
  | with_reducible refine RP.eq isi_int ?_ | with_reducible refine RP.eq isi_bool ?_ | with_reducible refine RP.eq isi_tuple ?_ | with_reducible refine RP.eq isi_str ?_ | with_reducible refine RP.eq isi_list ?_
  | ((with_reducible refine' q_len ?k1 ?_); (case k1 => rfl)) | ((with_reducible refine' RP.eq (paddt ?k1) ?_); (case k1 => exact Nat.le_of_ble_eq_true rfl))
  | ((with_reducible refine' q_lcons ?k1 ?_); (case k1 => rfl)) | ((with_reducible refine' q_lnil ?k1 ?_); (case k1 => rfl)) | with_reducible refine q_tab ?_ | with_reducible refine q_isTab ?_ | with_reducible refine q_noTab ?_ | with_reducible refine q_str1 ?_ | with_reducible refine q_int1 ?_
  | with_reducible refine RP.eq ptuplel ?_
  | with_reducible refine RP.eq pix0 ?_ | with_reducible refine RP.eq pix1 ?_ | with_reducible refine RP.eq pix2 ?_))
local macro_rules | `(tactic| walk_at "qq") => `(tactic| repeat walk_at "q1")
local macro_rules | `(tactic| walk_at "cell") => `(tactic| first | assumption | (apply M.set_at; walk_at "cell"))
local macro_rules | `(tactic| walk_at "qc") => `(tactic| repeat (first
  | walk_at "q1"
  | ((refine' M.cIx ?k1 ?k2 ?_); (case k1 => walk_at "cell"); (case k2 => rfl))
  | ((refine' M.cSet ?k1 ?k2 ?_); (case k1 => walk_at "cell"); (case k2 => rfl))))
local macro_rules | `(tactic| walk_at "ks") => `(tactic| first | (refine M.q_dec (fun hs => absurd hs (by decide +kernel)) (fun _ => ?_)) | (refine M.q_dec (fun _ => ?_) (fun hs => absurd rfl hs)) | (refine M.q_ndec (fun _ => ?_) (fun hs => absurd hs (by decide +kernel))) | (refine M.q_ndec (fun hs => absurd rfl hs) (fun _ => ?_)))
local macro_rules | `(tactic| walk_at "qk") => `(tactic| repeat (first
  | walk_at "q1"
  | ((refine' M.cIx ?k1 ?k2 ?_); (case k1 => walk_at "cell"); (case k2 => rfl))
  | ((refine' M.cSet ?k1 ?k2 ?_); (case k1 => walk_at "cell"); (case k2 => rfl))
  | walk_at "ks"))
namespace N25
open PySem PySem.Spec PyProof.Rows L2 Z M
theorem plain_ok : ∀ (m : Nat) {N j : Nat} {C : Cells} {d : Int}, N25.WellC j C → 0 ≤ d → d.toNat ≤ m → m + 2 ≤ N → RE (m__law_plain_kind N [.c j, .d (.int d)] C) fun v C' => ∃ c : DK, v = .d (encK c) ∧ c.plain = true ∧ kd c ≤ d.toNat + 1 ∧ N25.GoC j C C' := by
  intro m
  induction m with
  | zero =>
    intro N j C d hw h0 hm hN
    obtain ⟨n, rfl⟩ : ∃ n, N = n + 1 := ⟨N - 1, by omega⟩
    refine q_fun rfl ?_
    walk_at "qc"
    refine ⟨rfl, (draw' (by omega) hw (by decide) (by decide)).mono ?_⟩
    rintro _ C1 ⟨r, rfl, r0, r1, g1⟩
    walk_at "qc"
    refine q_dec (fun hd => ?_) (fun hd => absurd (by omega) hd)
    walk_at "qc"
    refine q_dec (fun h3 => ?_) (fun h3 => ?_)
    · walk_at "qc"
      rw [g1.take]
      exact ⟨.unit, rfl, rfl, by show 1 ≤ _; omega, g1⟩
    · walk_at "qc"
      rw [g1.take]
      exact ⟨.num, rfl, rfl, by show 1 ≤ _; omega, g1⟩
  | succ m ih =>
    intro N j C d hw h0 hm hN
    obtain ⟨n, rfl⟩ : ∃ n, N = n + 1 := ⟨N - 1, by omega⟩
    refine q_fun rfl ?_
    walk_at "qc"
    refine ⟨rfl, (draw' (by omega) hw (by decide) (by decide)).mono ?_⟩
    rintro _ C1 ⟨r, rfl, r0, r1, g1⟩
    walk_at "qc"
    refine q_dec (fun hd => ?_) (fun hd => ?_)
    · walk_at "qc"
      refine q_dec (fun h3 => ?_) (fun h3 => ?_)
      · walk_at "qc"
        rw [g1.take]
        exact ⟨.unit, rfl, rfl, by show 1 ≤ _; omega, g1⟩
      · walk_at "qc"
        rw [g1.take]
        exact ⟨.num, rfl, rfl, by show 1 ≤ _; omega, g1⟩
    · walk_at "qc"
      refine q_dec (fun hd2 => ?_) (fun hd2 => ?_)
      · walk_at "qc"
        refine q_dec (fun h3 => ?_) (fun h3 => ?_)
        · walk_at "qc"
          rw [g1.take]
          exact ⟨.unit, rfl, rfl, by show 1 ≤ _; omega, g1⟩
        · walk_at "qc"
          rw [g1.take]
          exact ⟨.num, rfl, rfl, by show 1 ≤ _; omega, g1⟩
      · walk_at "qc"
        refine q_dec (fun h4 => ?_) (fun h4 => ?_)
        · walk_at "qc"
          refine ⟨rfl, RE.eq (truth_eq (by omega)) ?_⟩
          walk_at "qc"
          rw [g1.take]
          exact ⟨.either .unit .unit, rfl, rfl, by show 2 ≤ _; omega, g1⟩
        · walk_at "qc"
          refine ⟨rfl, (ih g1.1 (by omega) (by omega) (by omega)).mono ?_⟩
          rintro _ C2 ⟨a, rfl, ha, ka, g2⟩
          walk_at "qc"
          refine q_dec (fun h6 => ?_) (fun h6 => ?_)
          · walk_at "qc"
            refine ⟨rfl, (ih g2.1 (by omega) (by omega) (by omega)).mono ?_⟩
            rintro _ C3 ⟨b, rfl, hb, kb, g3⟩
            walk_at "qc"
            have g := (g1.trans g2).trans g3
            rw [g.take]
            exact ⟨.pair a b, rfl, by simp only [DK.plain, ha, hb, Bool.and_self], by simp only [kd]; omega, g⟩
          · walk_at "qc"
            refine ⟨rfl, (ih g2.1 (by omega) (by omega) (by omega)).mono ?_⟩
            rintro _ C3 ⟨b, rfl, hb, kb, g3⟩
            walk_at "qc"
            have g := (g1.trans g2).trans g3
            rw [g.take]
            exact ⟨.either a b, rfl, by simp only [DK.plain, ha, hb, Bool.and_self], by simp only [kd]; omega, g⟩
end N25
end
section
open M
local macro_rules | `(tactic| walk_at "q1") => `(tactic| (first
  | with_reducible refine q_seq ?_ | with_reducible refine q_sif ?_ | with_reducible refine q_asg ?_ | with_reducible refine q_ret ?_ | with_reducible refine q_next ?_ | with_reducible refine q_drop ?_ | with_reducible refine q_for ?_ | with_reducible refine q_par ?_ | with_reducible refine q_par3 ?_
  | ((with_reducible refine' q_var ?k1 ?_); (case k1 => rfl)) | with_reducible refine q_c ?_ | with_reducible refine q_op ?_ | with_reducible refine q_un ?_ | with_reducible refine q_cons ?_ | with_reducible refine q_nil ?_ | with_reducible refine q_cb ?_ | with_reducible refine q_ty ?_
  | with_reducible refine q_test ?_ | with_reducible refine q_if ?_ | with_reducible refine q_tup ?_ | with_reducible refine q_lst ?_ | with_reducible refine q_and ?_ | with_reducible refine q_or ?_ | with_reducible refine q_not ?_ | with_reducible refine q_andV ?_ | with_reducible refine q_orV ?_ | with_reducible refine q_notV ?_
  | with_reducible refine q_call ?_ | with_reducible refine q_callN ?_ | with_reducible refine q_sl ?_ | with_reducible refine q_onone ?_ | with_reducible refine q_osome ?_ | with_reducible refine q_gname ?_ | with_reducible refine q_gcons ?_ | with_reducible refine q_gnil ?_ | with_reducible refine q_gconsM ?_ | with_reducible refine q_gnilM ?_ | with_reducible refine q_gsub ?_ | ((with_reducible refine' q_gtup ?k1 ?_); (case k1 => rfl))
  | with_reducible refine q_leave ?_ | with_reducible refine q_yes ?_ | with_reducible refine q_it ?_ | with_reducible refine q_if0 ?_ | with_reducible refine q_iR1 ?_ | with_reducible refine q_lstC ?_ | with_reducible refine q_tru ?_ | with_reducible refine q_lc ?_
  | with_reducible refine RP.eq paddi ?_ | with_reducible refine RP.eq psubi ?_ | with_reducible refine RP.eq pinti ?_ | with_reducible refine RP.eq pintb ?_ | with_reducible refine RP.eq pabsi ?_ | with_reducible refine RP.eq pnegi ?_ | with_reducible refine RP.eq peqs ?_ | with_reducible refine RP.eq peqi ?_
  | with_reducible refine RP.eq pnes ?_ | with_reducible refine RP.eq pnei ?_ | with_reducible refine RP.eq pgti ?_ | with_reducible refine RP.eq plei ?_ | with_reducible refine RP.eq pgei ?_ | with_reducible refine RP.eq plti ?_ | with_reducible refine RP.eq plent ?_ | with_reducible refine RP.eq plenl ?_
  | with_reducible refine RP.eq psltt ?_ | with_reducible refine RP.eq psltl ?_
  | ((with_reducible refine' RP.eq (pmuli ?k1) ?_); (case k1 => first | (unfold L2.CMul; omega) | (unfold L2.CMul; decide))) | ((with_reducible refine' RP.eq (pmodi ?k1) ?_); (case k1 => first | omega | decide)) | ((with_reducible refine' RP.eq (pfdivi ?k1) ?_); (case k1 => unfold L2.CDiv; omega)) | ((with_reducible refine' RP.eq (pdivmodi ?k1) ?_); (case k1 => unfold L2.CDiv; omega)) | ((with_reducible refine' RP.eq (pdivmodWi ?k1 ?k2) ?_); (case k1 => omega); (case k2 => omega)) | ((with_reducible refine' RP.eq (ppowi ?k1) ?_); (case k1 => unfold L2.CPow; decide))
  | with_reducible refine q_asB ?_ | ((with_reducible refine' q_allD ?k1 ?_); (case k1 => rfl))
  | with_reducible refine Z.r_nt ?_ | with_reducible refine Z.r_nf ?_
  | with_reducible refine RP.eq isi_int_none ?_ | with_reducible refine RP.eq isi_int_bool ?_ | with_reducible refine RP.eq isi_int_int ?_ | with_reducible refine RP.eq isi_int_str ?_ | with_reducible refine RP.eq isi_int_tuple ?_ | with_reducible refine RP.eq isi_int_list ?_ | with_reducible refine RP.eq isi_bool_none ?_ | with_reducible refine RP.eq isi_bool_bool ?_ | with_reducible refine RP.eq isi_bool_int ?_ | with_reducible refine RP.eq isi_bool_str ?_ | with_reducible refine RP.eq isi_bool_tuple ?_ | with_reducible refine RP.eq isi_bool_list ?_ | with_reducible refine RP.eq isi_tuple_none ?_ | with_reducible refine RP.eq isi_tuple_bool ?_ | with_reducible refine RP.eq isi_tuple_int ?_ | with_reducible refine RP.eq isi_tuple_str ?_ | with_reducible refine RP.eq isi_tuple_tuple ?_ | with_reducible refine RP.eq isi_tuple_list ?_ | with_reducible refine RP.eq isi_str_none ?_ | with_reducible refine RP.eq isi_str_bool ?_ | with_reducible refine RP.eq isi_str_int ?_ | with_reducible refine RP.eq isi_str_str ?_ | with_reducible refine RP.eq isi_str_tuple ?_ | with_reducible refine RP.eq isi_str_list ?_ | with_reducible refine RP.eq isi_list_none ?_ | with_reducible refine RP.eq isi_list_bool ?_ | with_reducible refine RP.eq isi_list_int ?_ | with_reducible refine RP.eq isi_list_str ?_ | with_reducible refine RP.eq isi_list_tuple ?_ | with_reducible refine RP.eq isi_list_list ?_
  | with_reducible refine RP.eq isi_int ?_ | with_reducible refine RP.eq isi_bool ?_ | with_reducible refine RP.eq isi_tuple ?_ | with_reducible refine RP.eq isi_str ?_ | with_reducible refine RP.eq isi_list ?_
  | ((with_reducible refine' q_len ?k1 ?_); (case k1 => rfl)) | ((with_reducible refine' RP.eq (paddt ?k1) ?_); (case k1 => exact Nat.le_of_ble_eq_true rfl))
  | ((with_reducible refine' q_lcons ?k1 ?_); (case k1 => rfl)) | ((with_reducible refine' q_lnil ?k1 ?_); (case k1 => rfl)) | with_reducible refine q_tab ?_ | with_reducible refine q_isTab ?_ | with_reducible refine q_noTab ?_ | with_reducible refine q_str1 ?_ | with_reducible refine q_int1 ?_
  | with_reducible refine RP.eq ptuplel ?_
  | with_reducible refine RP.eq pix0 ?_ | with_reducible refine RP.eq pix1 ?_ | with_reducible refine RP.eq pix2 ?_))
local macro_rules | `(tactic| walk_at "qq") => `(tactic| repeat walk_at "q1")
local macro_rules | `(tactic| walk_at "cell") => `(tactic| first | assumption | (apply M.set_at; walk_at "cell"))
local macro_rules | `(tactic| walk_at "qc") => `(tactic| repeat (first
  | walk_at "q1"
  | ((refine' M.cIx ?k1 ?k2 ?_); (case k1 => walk_at "cell"); (case k2 => rfl))
  | ((refine' M.cSet ?k1 ?k2 ?_); (case k1 => walk_at "cell"); (case k2 => rfl))))
local macro_rules | `(tactic| walk_at "ks") => `(tactic| first | (refine M.q_dec (fun hs => absurd hs (by decide +kernel)) (fun _ => ?_)) | (refine M.q_dec (fun _ => ?_) (fun hs => absurd rfl hs)) | (refine M.q_ndec (fun _ => ?_) (fun hs => absurd hs (by decide +kernel))) | (refine M.q_ndec (fun hs => absurd rfl hs) (fun _ => ?_)))
local macro_rules | `(tactic| walk_at "qk") => `(tactic| repeat (first
  | walk_at "q1"
  | ((refine' M.cIx ?k1 ?k2 ?_); (case k1 => walk_at "cell"); (case k2 => rfl))
  | ((refine' M.cSet ?k1 ?k2 ?_); (case k1 => walk_at "cell"); (case k2 => rfl))
  | walk_at "ks"))
namespace N25
open PySem PySem.Spec PyProof.Rows L2 Z M
theorem fits_pok {R B : Nat} (hB : B < big) : ∀ {x : PV}, fits R B (ofP x) → pok x
  | .unit, _ => trivial
  | .num i, h => Nat.lt_of_le_of_lt (show i.natAbs ≤ B from h) hB
  | .pair a b, ⟨h1, h2⟩ => ⟨fits_pok hB h1, fits_pok hB h2⟩
  | .left a, h => fits_pok (x := a) hB h
  | .right a, h => fits_pok (x := a) hB h
theorem cnt_small {M : Nat} {x : PV} : ∀ {r : Rows}, (∀ p ∈ r, p.2.natAbs ≤ M) → (cnt r x).natAbs ≤ r.length * M
  | [], _ => by simp [Z.cnt]
  | p :: r, h => by
    have ih := cnt_small (x := x) (r := r) fun q hq => h q (List.mem_cons_of_mem _ hq)
    have h1 := h p List.mem_cons_self
    rw [Z.cnt, List.length_cons, Nat.add_mul, Nat.one_mul]
    split <;> omega
theorem norm_fits {r : Rows} (hl : r.length ≤ 4) (h : ∀ p ∈ r, p.2.natAbs ≤ 4 ∧ pok p.1) : fits 4 (10 ^ 20) (.bag (norm r)) := by
  refine ⟨Nat.le_trans (norm_len r) hl, fun q hq => ⟨?_, ?_⟩⟩
  · rw [← cnt_at (norm_bagged r).asc hq, cnt_norm]
    have z := cnt_small (x := q.1) (M := 4) fun p hp => (h p hp).1
    have z2 : r.length * 4 ≤ 4 * 4 := Nat.mul_le_mul_right _ hl
    exact Nat.le_trans (Nat.le_trans z z2) (by decide)
  · obtain ⟨z, hz, e⟩ := norm_keys hq
    rw [← e]
    exact (h z hz).2
theorem big20 : 10 ^ 20 < big := by decide +kernel
theorem bag' {N : Nat} {C : Cells} {c : DK} {a : AV} {rows : Rows} (hN : 1 ≤ N) (ha : a.items C = some (rows.map encR)) (hr : ∀ p ∈ rows, hasP c p.1) (hl : rows.length < 60) (hk : kd c ≤ 8) :
    m__law_bag N [a] C = some (.d (.tuple ((norm rows).map encR)), C) := by
  obtain ⟨n, rfl⟩ : ∃ n, N = n + 1 := ⟨N - 1, by omega⟩
  show (a.items C).bind (fun ds => (bagD ds).bind fun z => some (AV.d z, C)) = _
  rw [ha]
  show (bagD (rows.map encR)).bind (fun z => some (AV.d z, C)) = _
  rw [bagD_at (k := c) (fun p hp => ⟨hr p hp, Nat.le_trans (pd_le (hr p hp)) hk⟩) hl]
  rfl
theorem whole' {N j : Nat} {C : Cells} (hN : 3 ≤ N) (hw : N25.WellC j C) : RE (m__law_whole N [.c j] C) fun v C' => ∃ i : Int, v = .d (.int i) ∧ i.natAbs ≤ 10 ^ 20 ∧ N25.GoC j C C' := by
  obtain ⟨n, rfl⟩ : ∃ n, N = n + 1 := ⟨N - 1, by omega⟩
  refine q_fun rfl ?_
  walk_at "qk"
  refine ⟨rfl, (draw' (by omega) hw (by decide) (by decide)).mono ?_⟩
  rintro _ C1 ⟨r, rfl, r0, r1, g1⟩
  walk_at "qk"
  refine ⟨rfl, (draw' (by omega) g1.1 (by decide) (by decide)).mono ?_⟩
  rintro _ C2 ⟨q, rfl, q0, q1, g2⟩
  walk_at "qk"
  refine ⟨rfl, (pick' (by omega) g2.1 (by simp) (Nat.le_of_ble_eq_true rfl)).mono ?_⟩
  rintro _ C3 ⟨x, hx, rfl, g3⟩
  have e12 : (10 : Int) ^ Int.toNat 12 = 1000000000000 := by decide +kernel
  have e11 : (10 : Int) ^ Int.toNat 11 = 100000000000 := by decide +kernel
  rw [e12] at q1
  rw [e11] at hx
  have hx2 : ∃ i : Int, x = .int i ∧ i.natAbs ≤ 10 ^ 20 := by
    simp only [List.mem_cons, List.not_mem_nil, or_false] at hx
    rcases hx with rfl | rfl | rfl | rfl | rfl | rfl | rfl | rfl | rfl <;> exact ⟨_, rfl, by omega⟩
  obtain ⟨i, rfl, hi⟩ := hx2
  have g := (g1.trans g2).trans g3
  refine ⟨_, _, rfl, i, rfl, hi, ?_⟩
  rw [g.take]
  exact g
/-- how deep what is held in bags is -/
def bkd : DK → Nat
  | .unit => 0 | .num => 0 | .bag a => kd a
  | .pair a b => max (bkd a) (bkd b) | .either a b => max (bkd a) (bkd b)
theorem bkd_le : ∀ c : DK, bkd c ≤ kd c
  | .unit => by decide
  | .num => by decide
  | .bag a => by simp only [bkd, kd]; omega
  | .pair a b => by
    have := bkd_le a
    have := bkd_le b
    simp only [bkd, kd]; omega
  | .either a b => by
    have := bkd_le a
    have := bkd_le b
    simp only [bkd, kd]; omega
theorem value_ok : ∀ (c : DK) {N j : Nat} {C : Cells}, N25.WellC j C → c.ok = true → bkd c ≤ 8 → kd c + 3 ≤ N → RE (m__law_value N [.c j, .d (encK c)] C) fun v C' => ∃ x, v = .d (encD x) ∧ has c x ∧ fits 4 (10 ^ 20) x ∧ N25.GoC j C C'
  | .unit, N, j, C, hw, ho, hk, hN => by
    obtain ⟨n, rfl⟩ : ∃ n, N = n + 1 := ⟨N - 1, by omega⟩
    refine q_fun rfl ?_
    simp only [encK]
    walk_at "qk"
    rw [List.take_length]
    exact ⟨.unit, rfl, trivial, trivial, .refl hw⟩
  | .num, N, j, C, hw, ho, hk, hN => by
    obtain ⟨n, rfl⟩ : ∃ n, N = n + 1 := ⟨N - 1, by omega⟩
    simp only [kd] at hN
    simp only [bkd] at hk
    refine q_fun rfl ?_
    simp only [encK]
    walk_at "qk"
    refine ⟨rfl, (whole' (by omega) hw).mono ?_⟩
    rintro _ C1 ⟨i, rfl, hi, g⟩
    refine ⟨_, _, rfl, ?_⟩
    rw [g.take]
    exact ⟨.num i, rfl, trivial, hi, g⟩
  | .pair a b, N, j, C, hw, ho, hk, hN => by
    obtain ⟨n, rfl⟩ : ∃ n, N = n + 1 := ⟨N - 1, by omega⟩
    simp only [kd] at hN
    simp only [bkd] at hk
    simp only [DK.ok, Bool.and_eq_true] at ho
    refine q_fun rfl ?_
    simp only [encK]
    walk_at "qk"
    refine ⟨rfl, (value_ok a hw ho.1 (by omega) (by omega)).mono ?_⟩
    rintro _ C1 ⟨x, rfl, hx, fx, g1⟩
    walk_at "qk"
    refine ⟨rfl, (value_ok b g1.1 ho.2 (by omega) (by omega)).mono ?_⟩
    rintro _ C2 ⟨y, rfl, hy, fy, g2⟩
    walk_at "qk"
    have g := g1.trans g2
    rw [g.take]
    exact ⟨.pair x y, rfl, ⟨hx, hy⟩, ⟨fx, fy⟩, g⟩
  | .either a b, N, j, C, hw, ho, hk, hN => by
    obtain ⟨n, rfl⟩ : ∃ n, N = n + 1 := ⟨N - 1, by omega⟩
    simp only [kd] at hN
    simp only [bkd] at hk
    simp only [DK.ok, Bool.and_eq_true] at ho
    refine q_fun rfl ?_
    simp only [encK]
    walk_at "qk"
    refine ⟨rfl, (draw' (by omega) hw (by decide) (by decide)).mono ?_⟩
    rintro _ C1 ⟨r, rfl, r0, r1, g1⟩
    have r01 : r = 0 ∨ r = 1 := by omega
    rcases r01 with rfl | rfl
    · walk_at "qk"
      refine ⟨rfl, (value_ok a g1.1 ho.1 (by omega) (by omega)).mono ?_⟩
      rintro _ C2 ⟨y, rfl, hy, fy, g2⟩
      walk_at "qk"
      have g := g1.trans g2
      rw [g.take]
      exact ⟨.left y, rfl, hy, fy, g⟩
    · walk_at "qk"
      refine ⟨rfl, (value_ok b g1.1 ho.2 (by omega) (by omega)).mono ?_⟩
      rintro _ C2 ⟨y, rfl, hy, fy, g2⟩
      walk_at "qk"
      have g := g1.trans g2
      rw [g.take]
      exact ⟨.right y, rfl, hy, fy, g⟩
  | .bag a, N, j, C, hw, ho, hk, hN => by
    obtain ⟨n, rfl⟩ : ∃ n, N = n + 1 := ⟨N - 1, by omega⟩
    simp only [kd] at hN
    simp only [bkd] at hk
    have ha : a.plain = true := ho
    refine q_fun rfl ?_
    simp only [encK]
    walk_at "qk"
    refine ⟨rfl, (draw' (by omega) hw.app (by decide) (by decide)).mono ?_⟩
    rintro _ E1 ⟨r, rfl, r0, r1, gE⟩
    obtain ⟨C1, rfl, g1⟩ := gE.app hw.lt
    walk_at "qk"
    refine ⟨r, rfl, by omega, ?_⟩
    refine q_loop (fun i env' E => (∃ e2 e3 e5, env' = [some (.c j), some (.d (.tuple [.str "bag", encK a])), e2, e3, some (.c C.length), e5]) ∧ ∃ (C' : Cells) (rows : Rows), E = C' ++ [some (rows.map encR)] ∧ N25.GoC j C C' ∧ rows.length = i ∧ ∀ z ∈ rows, hasP a z.1 ∧ z.2.natAbs ≤ 4 ∧ pok z.1)
      ⟨⟨none, none, none, rfl⟩, C1, [], rfl, g1, rfl, fun _ z => nomatch z⟩ (fun _ _ _ _ => rfl) ?_ ?_
    · rintro i av env' E hi ⟨⟨e2, e3, e5, rfl⟩, C', rows, rfl, g, hlen, hgood⟩
      obtain ⟨hik, rfl⟩ := rngs_at hi
      have hi5 : i < 4 := by omega
      walk_at "qk"
      refine q_app ?_
      walk_at "qk"
      have L1 : C'.length = C.length := g.len
      refine ⟨C.length, rfl, ⟨rows.map encR, by rw [← L1]; exact app_at⟩, ?_⟩
      walk_at "qk"
      refine ⟨rfl, (value_ok a g.1.app (DK.plain_ok ha) (Nat.le_trans (bkd_le a) hk) (by omega)).mono ?_⟩
      rintro _ E2 ⟨x, rfl, hx, fx, gE2⟩
      obtain ⟨C2, rfl, g2⟩ := gE2.app g.1.lt
      obtain ⟨px, rfl, hpx⟩ := has_plain ha hx
      walk_at "qk"
      refine ⟨rfl, (pick' (by omega) g2.1.app (by simp) (Nat.le_of_ble_eq_true rfl)).mono ?_⟩
      rintro _ E3 ⟨y, hy, rfl, gE3⟩
      obtain ⟨C3, rfl, g3⟩ := gE3.app g2.1.lt
      have hn4 : ∃ n : Int, y = .int n ∧ n.natAbs ≤ 4 := by
        simp only [List.mem_cons, List.not_mem_nil, or_false] at hy
        rcases hy with rfl | rfl | rfl | rfl | rfl | rfl <;> exact ⟨_, rfl, by decide⟩
      obtain ⟨n4, rfl, hn4⟩ := hn4
      have L3 : C3.length = C.length := ((g.trans g2).trans g3).len
      walk_at "qk"
      refine ⟨_, rows.map encR, rfl, by rw [← L3]; exact app_at, by rw [List.length_map]; omega, ?_⟩
      refine ⟨⟨_, _, _, rfl⟩, C3, rows ++ [(px, n4)], ?_, (g.trans g2).trans g3, by rw [List.length_append, hlen]; rfl, fun z hz => ?_⟩
      · rw [← L3, app_set, List.map_append, encD_ofP]
        rfl
      · rcases List.mem_append.mp hz with hz | hz
        · exact hgood z hz
        · rw [List.mem_singleton.mp hz]
          exact ⟨hpx, hn4, fits_pok big20 fx⟩
    · rintro env' E ⟨⟨e2, e3, e5, rfl⟩, C', rows, rfl, g, hlen, hgood⟩
      rw [rngs_len] at hlen
      have hrl : rows.length ≤ 4 := by omega
      walk_at "qk"
      refine q_frz ?_
      walk_at "qk"
      refine ⟨C.length, rfl, rows.map encR, by rw [← g.len, app_at]; rfl, ?_⟩
      rw [← g.len, app_set]
      walk_at "qk"
      refine ⟨rfl, RE.eq (bag' (c := a) (rows := rows) (by omega) rfl (fun z hz => (hgood z hz).1) (by omega) (by omega)) ?_⟩
      refine ⟨_, _, rfl, .bag (norm rows), rfl, ⟨norm_bagged rows, fun z hz => ?_⟩, norm_fits hrl fun z hz => ⟨(hgood z hz).2.1, (hgood z hz).2.2⟩, ?_⟩
      · obtain ⟨y, hy, e⟩ := norm_keys hz
        rw [← e]
        exact (hgood y hy).1
      · rw [take_app]
        exact g
end N25
end
section
open M
local macro_rules | `(tactic| walk_at "q1") => `(tactic| (first
  | with_reducible refine q_seq ?_ | with_reducible refine q_sif ?_ | with_reducible refine q_asg ?_ | with_reducible refine q_ret ?_ | with_reducible refine q_next ?_ | with_reducible refine q_drop ?_ | with_reducible refine q_for ?_ | with_reducible refine q_par ?_ | with_reducible refine q_par3 ?_
  | ((with_reducible refine' q_var ?k1 ?_); (case k1 => rfl)) | with_reducible refine q_c ?_ | with_reducible refine q_op ?_ | with_reducible refine q_un ?_ | with_reducible refine q_cons ?_ | with_reducible refine q_nil ?_ | with_reducible refine q_cb ?_ | with_reducible refine q_ty ?_
  | with_reducible refine q_test ?_ | with_reducible refine q_if ?_ | with_reducible refine q_tup ?_ | with_reducible refine q_lst ?_ | with_reducible refine q_and ?_ | with_reducible refine q_or ?_ | with_reducible refine q_not ?_ | with_reducible refine q_andV ?_ | with_reducible refine q_orV ?_ | with_reducible refine q_notV ?_
  | with_reducible refine q_call ?_ | with_reducible refine q_callN ?_ | with_reducible refine q_sl ?_ | with_reducible refine q_onone ?_ | with_reducible refine q_osome ?_ | with_reducible refine q_gname ?_ | with_reducible refine q_gcons ?_ | with_reducible refine q_gnil ?_ | with_reducible refine q_gconsM ?_ | with_reducible refine q_gnilM ?_ | with_reducible refine q_gsub ?_ | ((with_reducible refine' q_gtup ?k1 ?_); (case k1 => rfl))
  | with_reducible refine q_leave ?_ | with_reducible refine q_yes ?_ | with_reducible refine q_it ?_ | with_reducible refine q_if0 ?_ | with_reducible refine q_iR1 ?_ | with_reducible refine q_lstC ?_ | with_reducible refine q_tru ?_ | with_reducible refine q_lc ?_
  | with_reducible refine RP.eq paddi ?_ | with_reducible refine RP.eq psubi ?_ | with_reducible refine RP.eq pinti ?_ | with_reducible refine RP.eq pintb ?_ | with_reducible refine RP.eq pabsi ?_ | with_reducible refine RP.eq pnegi ?_ | with_reducible refine RP.eq peqs ?_ | with_reducible refine RP.eq peqi ?_
  | with_reducible refine RP.eq pnes ?_ | with_reducible refine RP.eq pnei ?_ | with_reducible refine RP.eq pgti ?_ | with_reducible refine RP.eq plei ?_ | with_reducible refine RP.eq pgei ?_ | with_reducible refine RP.eq plti ?_ | with_reducible refine RP.eq plent ?_ | with_reducible refine RP.eq plenl ?_
  | with_reducible refine RP.eq psltt ?_ | with_reducible refine RP.eq psltl ?_
  | ((with_reducible refine' RP.eq (pmuli ?k1) ?_); (case k1 => first | (unfold L2.CMul; omega) | (unfold L2.CMul; decide))) | ((with_reducible refine' RP.eq (pmodi ?k1) ?_); (case k1 => first | omega | decide)) | ((with_reducible refine' RP.eq (pfdivi ?k1) ?_); (case k1 => unfold L2.CDiv; omega)) | ((with_reducible refine' RP.eq (pdivmodi ?k1) ?_); (case k1 => unfold L2.CDiv; omega)) | ((with_reducible refine' RP.eq (pdivmodWi ?k1 ?k2) ?_); (case k1 => omega); (case k2 => omega)) | ((with_reducible refine' RP.eq (ppowi ?k1) ?_); (case k1 => unfold L2.CPow; decide))
  | with_reducible refine q_asB ?_ | ((with_reducible refine' q_allD ?k1 ?_); (case k1 => rfl))
  | with_reducible refine Z.r_nt ?_ | with_reducible refine Z.r_nf ?_
  | with_reducible refine RP.eq isi_int_none ?_ | with_reducible refine RP.eq isi_int_bool ?_ | with_reducible refine RP.eq isi_int_int ?_ | with_reducible refine RP.eq isi_int_str ?_ | with_reducible refine RP.eq isi_int_tuple ?_ | with_reducible refine RP.eq isi_int_list ?_ | with_reducible refine RP.eq isi_bool_none ?_ | with_reducible refine RP.eq isi_bool_bool ?_ | with_reducible refine RP.eq isi_bool_int ?_ | with_reducible refine RP.eq isi_bool_str ?_ | with_reducible refine RP.eq isi_bool_tuple ?_ | with_reducible refine RP.eq isi_bool_list ?_ | with_reducible refine RP.eq isi_tuple_none ?_ | with_reducible refine RP.eq isi_tuple_bool ?_ | with_reducible refine RP.eq isi_tuple_int ?_ | with_reducible refine RP.eq isi_tuple_str ?_ | with_reducible refine RP.eq isi_tuple_tuple ?_ | with_reducible refine RP.eq isi_tuple_list ?_ | with_reducible refine RP.eq isi_str_none ?_ | with_reducible refine RP.eq isi_str_bool ?_ | with_reducible refine RP.eq isi_str_int ?_ | with_reducible refine RP.eq isi_str_str ?_ | with_reducible refine RP.eq isi_str_tuple ?_ | with_reducible refine RP.eq isi_str_list ?_ | with_reducible refine RP.eq isi_list_none ?_ | with_reducible refine RP.eq isi_list_bool ?_ | with_reducible refine RP.eq isi_list_int ?_ | with_reducible refine RP.eq isi_list_str ?_ | with_reducible refine RP.eq isi_list_tuple ?_ | with_reducible refine RP.eq isi_list_list ?_
  | with_reducible refine RP.eq isi_int ?_ | with_reducible refine RP.eq isi_bool ?_ | with_reducible refine RP.eq isi_tuple ?_ | with_reducible refine RP.eq isi_str ?_ | with_reducible refine RP.eq isi_list ?_
  | ((with_reducible refine' q_len ?k1 ?_); (case k1 => rfl)) | ((with_reducible refine' RP.eq (paddt ?k1) ?_); (case k1 => exact Nat.le_of_ble_eq_true rfl))
  | ((with_reducible refine' q_lcons ?k1 ?_); (case k1 => rfl)) | ((with_reducible refine' q_lnil ?k1 ?_); (case k1 => rfl)) | with_reducible refine q_tab ?_ | with_reducible refine q_isTab ?_ | with_reducible refine q_noTab ?_ | with_reducible refine q_str1 ?_ | with_reducible refine q_int1 ?_
  | with_reducible refine RP.eq ptuplel ?_
  | with_reducible refine RP.eq pix0 ?_ | with_reducible refine RP.eq pix1 ?_ | with_reducible refine RP.eq pix2 ?_))
local macro_rules | `(tactic| walk_at "qq") => `(tactic| repeat walk_at "q1")
local macro_rules | `(tactic| walk_at "cell") => `(tactic| first | assumption | (apply M.set_at; walk_at "cell"))
local macro_rules | `(tactic| walk_at "qc") => `(tactic| repeat (first
  | walk_at "q1"
  | ((refine' M.cIx ?k1 ?k2 ?_); (case k1 => walk_at "cell"); (case k2 => rfl))
  | ((refine' M.cSet ?k1 ?k2 ?_); (case k1 => walk_at "cell"); (case k2 => rfl))))
local macro_rules | `(tactic| walk_at "ks") => `(tactic| first | (refine M.q_dec (fun hs => absurd hs (by decide +kernel)) (fun _ => ?_)) | (refine M.q_dec (fun _ => ?_) (fun hs => absurd rfl hs)) | (refine M.q_ndec (fun _ => ?_) (fun hs => absurd hs (by decide +kernel))) | (refine M.q_ndec (fun hs => absurd rfl hs) (fun _ => ?_)))
local macro_rules | `(tactic| walk_at "qk") => `(tactic| repeat (first
  | walk_at "q1"
  | ((refine' M.cIx ?k1 ?k2 ?_); (case k1 => walk_at "cell"); (case k2 => rfl))
  | ((refine' M.cSet ?k1 ?k2 ?_); (case k1 => walk_at "cell"); (case k2 => rfl))
  | walk_at "ks"))
namespace N25
open PySem PySem.Spec PyProof.Rows L2 Z M
mutual
def tidyN (b : Nat) : PyData → Bool
  | .tuple ds => decide (ds.length ≤ b) && tidyNAll b ds
  | _ => true
def tidyNAll (b : Nat) : List PyData → Bool
  | [] => true
  | d :: ds => tidyN b d && tidyNAll b ds
end
abbrev tidy := tidyN 100
abbrev tidyAll := tidyNAll 100
theorem tidy_mem {b : Nat} : ∀ {ds : List PyData} {d : PyData}, tidyNAll b ds = true → d ∈ ds → tidyN b d = true
  | a :: ds, d, h, hm => by
    have h' : (tidyN b a && tidyNAll b ds) = true := h
    rw [Bool.and_eq_true] at h'
    rcases List.mem_cons.mp hm with rfl | hm
    · exact h'.1
    · exact tidy_mem h'.2 hm
theorem tidy_tup {b : Nat} {ds : List PyData} (h : tidyN b (.tuple ds) = true) : ds.length ≤ b ∧ tidyNAll b ds = true := by
  have h' : (decide (ds.length ≤ b) && tidyNAll b ds) = true := h
  rw [Bool.and_eq_true] at h'
  exact ⟨of_decide_eq_true h'.1, h'.2⟩
theorem lay_mem : ∀ {ds : List PyData} {d : PyData}, PyData.canLayAll0 ds = true → d ∈ ds → d.canLay0 = true
  | a :: ds, d, h, hm => by
    have h' : (a.canLay0 && PyData.canLayAll0 ds) = true := h
    rw [Bool.and_eq_true] at h'
    rcases List.mem_cons.mp hm with rfl | hm
    · exact h'.1
    · exact lay_mem h'.2 hm
theorem deep_mem : ∀ {ds : List PyData} {d : PyData}, d ∈ ds → d.depth ≤ PyData.depthAll ds
  | a :: ds, d, h => by
    rw [PyData.depthAll]
    rcases List.mem_cons.mp h with rfl | h
    · omega
    · have := deep_mem h
      omega
theorem deep_tup {ds : List PyData} : (PyData.tuple ds).depth = PyData.depthAll ds + 1 := by rw [PyData.depth]
theorem shaped_mem {ds : List PyData} {d : PyData} (h : SeqAt.shaped (.tuple ds) = true) (hm : d ∈ ds) : SeqAt.shaped d = true := by
  have h' : (PyData.canLayAll0 ds && decide ((PyData.tuple ds).depth ≤ 64)) = true := h
  rw [Bool.and_eq_true, decide_eq_true_iff, deep_tup] at h'
  have z := deep_mem hm
  show (d.canLay0 && decide (d.depth ≤ 64)) = true
  rw [lay_mem h'.1 hm, decide_eq_true (by omega)]
  rfl
theorem cut_mem {ds : List PyData} {lo hi : Option Int} {d : PyData} (h : d ∈ Z.cutD ds lo hi) : d ∈ ds := by
  unfold Z.cutD at h
  exact List.mem_of_mem_drop (List.mem_of_mem_take h)
end N25
end
section
open M
local macro_rules | `(tactic| walk_at "q1") => `(tactic| (first
  | with_reducible refine q_seq ?_ | with_reducible refine q_sif ?_ | with_reducible refine q_asg ?_ | with_reducible refine q_ret ?_ | with_reducible refine q_next ?_ | with_reducible refine q_drop ?_ | with_reducible refine q_for ?_ | with_reducible refine q_par ?_ | with_reducible refine q_par3 ?_
  | ((with_reducible refine' q_var ?k1 ?_); (case k1 => rfl)) | with_reducible refine q_c ?_ | with_reducible refine q_op ?_ | with_reducible refine q_un ?_ | with_reducible refine q_cons ?_ | with_reducible refine q_nil ?_ | with_reducible refine q_cb ?_ | with_reducible refine q_ty ?_
  | with_reducible refine q_test ?_ | with_reducible refine q_if ?_ | with_reducible refine q_tup ?_ | with_reducible refine q_lst ?_ | with_reducible refine q_and ?_ | with_reducible refine q_or ?_ | with_reducible refine q_not ?_ | with_reducible refine q_andV ?_ | with_reducible refine q_orV ?_ | with_reducible refine q_notV ?_
  | with_reducible refine q_call ?_ | with_reducible refine q_callN ?_ | with_reducible refine q_sl ?_ | with_reducible refine q_onone ?_ | with_reducible refine q_osome ?_ | with_reducible refine q_gname ?_ | with_reducible refine q_gcons ?_ | with_reducible refine q_gnil ?_ | with_reducible refine q_gconsM ?_ | with_reducible refine q_gnilM ?_ | with_reducible refine q_gsub ?_ | ((with_reducible refine' q_gtup ?k1 ?_); (case k1 => rfl))
  | with_reducible refine q_leave ?_ | with_reducible refine q_yes ?_ | with_reducible refine q_it ?_ | with_reducible refine q_if0 ?_ | with_reducible refine q_iR1 ?_ | with_reducible refine q_lstC ?_ | with_reducible refine q_tru ?_ | with_reducible refine q_lc ?_
  | with_reducible refine RP.eq paddi ?_ | with_reducible refine RP.eq psubi ?_ | with_reducible refine RP.eq pinti ?_ | with_reducible refine RP.eq pintb ?_ | with_reducible refine RP.eq pabsi ?_ | with_reducible refine RP.eq pnegi ?_ | with_reducible refine RP.eq peqs ?_ | with_reducible refine RP.eq peqi ?_
  | with_reducible refine RP.eq pnes ?_ | with_reducible refine RP.eq pnei ?_ | with_reducible refine RP.eq pgti ?_ | with_reducible refine RP.eq plei ?_ | with_reducible refine RP.eq pgei ?_ | with_reducible refine RP.eq plti ?_ | with_reducible refine RP.eq plent ?_ | with_reducible refine RP.eq plenl ?_
  | with_reducible refine RP.eq psltt ?_ | with_reducible refine RP.eq psltl ?_
  | ((with_reducible refine' RP.eq (pmuli ?k1) ?_); (case k1 => first | (unfold L2.CMul; omega) | (unfold L2.CMul; decide))) | ((with_reducible refine' RP.eq (pmodi ?k1) ?_); (case k1 => first | omega | decide)) | ((with_reducible refine' RP.eq (pfdivi ?k1) ?_); (case k1 => unfold L2.CDiv; omega)) | ((with_reducible refine' RP.eq (pdivmodi ?k1) ?_); (case k1 => unfold L2.CDiv; omega)) | ((with_reducible refine' RP.eq (pdivmodWi ?k1 ?k2) ?_); (case k1 => omega); (case k2 => omega)) | ((with_reducible refine' RP.eq (ppowi ?k1) ?_); (case k1 => unfold L2.CPow; decide))
  | with_reducible refine q_asB ?_ | ((with_reducible refine' q_allD ?k1 ?_); (case k1 => rfl))
  | with_reducible refine Z.r_nt ?_ | with_reducible refine Z.r_nf ?_
  | with_reducible refine RP.eq isi_int_none ?_ | with_reducible refine RP.eq isi_int_bool ?_ | with_reducible refine RP.eq isi_int_int ?_ | with_reducible refine RP.eq isi_int_str ?_ | with_reducible refine RP.eq isi_int_tuple ?_ | with_reducible refine RP.eq isi_int_list ?_ | with_reducible refine RP.eq isi_bool_none ?_ | with_reducible refine RP.eq isi_bool_bool ?_ | with_reducible refine RP.eq isi_bool_int ?_ | with_reducible refine RP.eq isi_bool_str ?_ | with_reducible refine RP.eq isi_bool_tuple ?_ | with_reducible refine RP.eq isi_bool_list ?_ | with_reducible refine RP.eq isi_tuple_none ?_ | with_reducible refine RP.eq isi_tuple_bool ?_ | with_reducible refine RP.eq isi_tuple_int ?_ | with_reducible refine RP.eq isi_tuple_str ?_ | with_reducible refine RP.eq isi_tuple_tuple ?_ | with_reducible refine RP.eq isi_tuple_list ?_ | with_reducible refine RP.eq isi_str_none ?_ | with_reducible refine RP.eq isi_str_bool ?_ | with_reducible refine RP.eq isi_str_int ?_ | with_reducible refine RP.eq isi_str_str ?_ | with_reducible refine RP.eq isi_str_tuple ?_ | with_reducible refine RP.eq isi_str_list ?_ | with_reducible refine RP.eq isi_list_none ?_ | with_reducible refine RP.eq isi_list_bool ?_ | with_reducible refine RP.eq isi_list_int ?_ | with_reducible refine RP.eq isi_list_str ?_ | with_reducible refine RP.eq isi_list_tuple ?_ | with_reducible refine RP.eq isi_list_list ?_
  | with_reducible refine RP.eq isi_int ?_ | with_reducible refine RP.eq isi_bool ?_ | with_reducible refine RP.eq isi_tuple ?_ | with_reducible refine RP.eq isi_str ?_ | with_reducible refine RP.eq isi_list ?_
  | ((with_reducible refine' q_len ?k1 ?_); (case k1 => rfl)) | ((with_reducible refine' RP.eq (paddt ?k1) ?_); (case k1 => exact Nat.le_of_ble_eq_true rfl))
  | ((with_reducible refine' q_lcons ?k1 ?_); (case k1 => rfl)) | ((with_reducible refine' q_lnil ?k1 ?_); (case k1 => rfl)) | with_reducible refine q_tab ?_ | with_reducible refine q_isTab ?_ | with_reducible refine q_noTab ?_ | with_reducible refine q_str1 ?_ | with_reducible refine q_int1 ?_
  | with_reducible refine RP.eq ptuplel ?_
  | with_reducible refine RP.eq pix0 ?_ | with_reducible refine RP.eq pix1 ?_ | with_reducible refine RP.eq pix2 ?_))
local macro_rules | `(tactic| walk_at "qq") => `(tactic| repeat walk_at "q1")
local macro_rules | `(tactic| walk_at "cell") => `(tactic| first | assumption | (apply M.set_at; walk_at "cell"))
local macro_rules | `(tactic| walk_at "qc") => `(tactic| repeat (first
  | walk_at "q1"
  | ((refine' M.cIx ?k1 ?k2 ?_); (case k1 => walk_at "cell"); (case k2 => rfl))
  | ((refine' M.cSet ?k1 ?k2 ?_); (case k1 => walk_at "cell"); (case k2 => rfl))))
local macro_rules | `(tactic| walk_at "ks") => `(tactic| first | (refine M.q_dec (fun hs => absurd hs (by decide +kernel)) (fun _ => ?_)) | (refine M.q_dec (fun _ => ?_) (fun hs => absurd rfl hs)) | (refine M.q_ndec (fun _ => ?_) (fun hs => absurd hs (by decide +kernel))) | (refine M.q_ndec (fun hs => absurd rfl hs) (fun _ => ?_)))
local macro_rules | `(tactic| walk_at "qk") => `(tactic| repeat (first
  | walk_at "q1"
  | ((refine' M.cIx ?k1 ?k2 ?_); (case k1 => walk_at "cell"); (case k2 => rfl))
  | ((refine' M.cSet ?k1 ?k2 ?_); (case k1 => walk_at "cell"); (case k2 => rfl))
  | walk_at "ks"))
namespace N25
open PySem PySem.Spec PyProof.Rows L2 Z M
def isI (o : Option PyData) (i : Int) : Bool := match o with
  | some (.int j) => decide (j = i)
  | _ => false
theorem look {o : Option PyData} {i : Int} (h : isI o i = true) : o = some (.int i) := by
  unfold isI at h
  split at h
  · rw [of_decide_eq_true h]
  · cases h
theorem form_ok (c : DK) {N : Nat} {C : Cells} (hN : 1 ≤ N) : m__has_form N [.d (encK c)] C = some (.d (.bool true), C) := by
  obtain ⟨n, rfl⟩ : ∃ n, N = n + 1 := ⟨N - 1, by omega⟩
  refine RE.to (q_fun rfl ?_)
  cases c with
  | unit =>
    simp only [encK]
    walk_at "qk"
    rw [show (List.lookup _ c__PARTS).isSome = true by decide +kernel]
    walk_at "qk"
    refine ⟨_, _, rfl, (show List.lookup _ c__PARTS = some (.int 0) from look (by decide +kernel)), ?_⟩
    walk_at "qk"
    rw [List.take_length]
    exact ⟨rfl, rfl⟩
  | num =>
    simp only [encK]
    walk_at "qk"
    rw [show (List.lookup _ c__PARTS).isSome = true by decide +kernel]
    walk_at "qk"
    refine ⟨_, _, rfl, (show List.lookup _ c__PARTS = some (.int 0) from look (by decide +kernel)), ?_⟩
    walk_at "qk"
    rw [List.take_length]
    exact ⟨rfl, rfl⟩
  | pair a b =>
    simp only [encK]
    walk_at "qk"
    refine q_dec (fun h => absurd h (by simp)) (fun _ => ?_)
    walk_at "qk"
    rw [show (List.lookup _ c__PARTS).isSome = true by decide +kernel]
    walk_at "qk"
    refine ⟨_, _, rfl, (show List.lookup _ c__PARTS = some (.int 2) from look (by decide +kernel)), ?_⟩
    walk_at "qk"
    rw [List.take_length]
    exact ⟨rfl, rfl⟩
  | either a b =>
    simp only [encK]
    walk_at "qk"
    refine q_dec (fun h => absurd h (by simp)) (fun _ => ?_)
    walk_at "qk"
    rw [show (List.lookup _ c__PARTS).isSome = true by decide +kernel]
    walk_at "qk"
    refine ⟨_, _, rfl, (show List.lookup _ c__PARTS = some (.int 2) from look (by decide +kernel)), ?_⟩
    walk_at "qk"
    rw [List.take_length]
    exact ⟨rfl, rfl⟩
  | bag a =>
    simp only [encK]
    walk_at "qk"
    refine q_dec (fun h => absurd h (by simp)) (fun _ => ?_)
    walk_at "qk"
    rw [show (List.lookup _ c__PARTS).isSome = true by decide +kernel]
    walk_at "qk"
    refine ⟨_, _, rfl, (show List.lookup _ c__PARTS = some (.int 1) from look (by decide +kernel)), ?_⟩
    walk_at "qk"
    rw [List.take_length]
    exact ⟨rfl, rfl⟩
def mdk (ws : List Str) : DK → Bool
  | .unit => ws.contains "unit"
  | .num => ws.contains "num"
  | .pair a b => ws.contains "pair" && (mdk ws a && mdk ws b)
  | .either a b => ws.contains "either" && (mdk ws a && mdk ws b)
  | .bag a => ws.contains "bag" && mdk ws a
theorem made_ok (ws : List Str) : ∀ (c : DK) {N : Nat} {C : Cells}, kd c ≤ N → mdk ws c = true → m__is_made_of N [.d (encK c), .d (.tuple (ws.map PyData.str))] C = some (.d (.bool true), C)
  | .unit, N, C, hN, h => by
    obtain ⟨n, rfl⟩ : ∃ n, N = n + 1 := ⟨N - 1, by have := kd_pos .unit; omega⟩
    refine RE.to (q_fun rfl ?_)
    simp only [encK]
    walk_at "qk"
    refine RP.eq pnin_strs ?_
    rw [show ws.contains _ = true from h]
    walk_at "qk"
    refine q_iT ?_
    walk_at "qk"
    refine ⟨_, rfl, ?_⟩
    rw [cutD1]
    walk_at "qk"
    rw [List.take_length]
    exact ⟨rfl, rfl⟩
  | .num, N, C, hN, h => by
    obtain ⟨n, rfl⟩ : ∃ n, N = n + 1 := ⟨N - 1, by have := kd_pos .num; omega⟩
    refine RE.to (q_fun rfl ?_)
    simp only [encK]
    walk_at "qk"
    refine RP.eq pnin_strs ?_
    rw [show ws.contains _ = true from h]
    walk_at "qk"
    refine q_iT ?_
    walk_at "qk"
    refine ⟨_, rfl, ?_⟩
    rw [cutD1]
    walk_at "qk"
    rw [List.take_length]
    exact ⟨rfl, rfl⟩
  | .pair a b, N, C, hN, h => by
    obtain ⟨n, rfl⟩ : ∃ n, N = n + 1 := ⟨N - 1, by have := kd_pos (.pair a b); omega⟩
    simp only [kd] at hN
    simp only [mdk, Bool.and_eq_true] at h
    refine RE.to (q_fun rfl ?_)
    simp only [encK]
    walk_at "qk"
    refine RP.eq pnin_strs ?_
    rw [show ws.contains _ = true from h.1]
    walk_at "qk"
    refine q_iT ?_
    walk_at "qk"
    refine ⟨_, rfl, ?_⟩
    rw [cutD1]
    walk_at "qk"
    refine ⟨rfl, RE.eq (made_ok ws a (by omega) h.2.1) ?_⟩
    walk_at "qk"
    refine ⟨rfl, RE.eq (made_ok ws b (by omega) h.2.2) ?_⟩
    walk_at "qk"
    rw [List.take_length]
    exact ⟨rfl, rfl⟩
  | .either a b, N, C, hN, h => by
    obtain ⟨n, rfl⟩ : ∃ n, N = n + 1 := ⟨N - 1, by have := kd_pos (.either a b); omega⟩
    simp only [kd] at hN
    simp only [mdk, Bool.and_eq_true] at h
    refine RE.to (q_fun rfl ?_)
    simp only [encK]
    walk_at "qk"
    refine RP.eq pnin_strs ?_
    rw [show ws.contains _ = true from h.1]
    walk_at "qk"
    refine q_iT ?_
    walk_at "qk"
    refine ⟨_, rfl, ?_⟩
    rw [cutD1]
    walk_at "qk"
    refine ⟨rfl, RE.eq (made_ok ws a (by omega) h.2.1) ?_⟩
    walk_at "qk"
    refine ⟨rfl, RE.eq (made_ok ws b (by omega) h.2.2) ?_⟩
    walk_at "qk"
    rw [List.take_length]
    exact ⟨rfl, rfl⟩
  | .bag a, N, C, hN, h => by
    obtain ⟨n, rfl⟩ : ∃ n, N = n + 1 := ⟨N - 1, by have := kd_pos (.bag a); omega⟩
    simp only [kd] at hN
    simp only [mdk, Bool.and_eq_true] at h
    refine RE.to (q_fun rfl ?_)
    simp only [encK]
    walk_at "qk"
    refine RP.eq pnin_strs ?_
    rw [show ws.contains _ = true from h.1]
    walk_at "qk"
    refine q_iT ?_
    walk_at "qk"
    refine ⟨_, rfl, ?_⟩
    rw [cutD1]
    walk_at "qk"
    refine ⟨rfl, RE.eq (made_ok ws a (by omega) h.2) ?_⟩
    walk_at "qk"
    rw [List.take_length]
    exact ⟨rfl, rfl⟩
theorem mdk_plain : ∀ c : DK, c.plain = true → mdk ["unit", "num", "pair", "either"] c = true
  | .unit, _ => by decide +kernel
  | .num, _ => by decide +kernel
  | .pair a b, h => by
    simp only [DK.plain, Bool.and_eq_true] at h
    simp only [mdk, mdk_plain a h.1, mdk_plain b h.2, Bool.and_true]
    decide +kernel
  | .either a b, h => by
    simp only [DK.plain, Bool.and_eq_true] at h
    simp only [mdk, mdk_plain a h.1, mdk_plain b h.2, Bool.and_true]
    decide +kernel
theorem mdk_data : ∀ c : DK, mdk ["unit", "num", "pair", "either", "bag"] c = true
  | .unit => by decide +kernel
  | .num => by decide +kernel
  | .pair a b => by
    simp only [mdk, mdk_data a, mdk_data b, Bool.and_true]
    decide +kernel
  | .either a b => by
    simp only [mdk, mdk_data a, mdk_data b, Bool.and_true]
    decide +kernel
  | .bag a => by
    simp only [mdk, mdk_data a, Bool.and_true]
    decide +kernel
theorem madeP (c : DK) {N : Nat} {C : Cells} (hN : kd c ≤ N) (h : c.plain = true) : m__is_made_of N [.d (encK c), .d c__PLAIN_WORDS] C = some (.d (.bool true), C) := made_ok ["unit", "num", "pair", "either"] c hN (mdk_plain c h)
theorem madeD (c : DK) {N : Nat} {C : Cells} (hN : kd c ≤ N) : m__is_made_of N [.d (encK c), .d c__DATA_WORDS] C = some (.d (.bool true), C) := made_ok ["unit", "num", "pair", "either", "bag"] c hN (mdk_data c)
theorem within_ok : ∀ (c : DK) {N : Nat} {C : Cells} {i : Int}, kd c + 1 ≤ N → (kd c : Int) < i → c.ok = true → m__is_kind_within N [.d (encK c), .d (.int i)] C = some (.d (.bool true), C)
  | .unit, N, C, i, hN, hi, ho => by
    obtain ⟨n, rfl⟩ : ∃ n, N = n + 1 := ⟨N - 1, by omega⟩
    simp only [kd] at hN hi
    refine RE.to (q_fun rfl ?_)
    walk_at "qk"
    refine q_dec (fun h => absurd h (by omega)) (fun _ => ?_)
    walk_at "qk"
    refine ⟨rfl, RE.eq (form_ok .unit (by omega)) ?_⟩
    walk_at "qk"
    simp only [encK]
    refine q_iT ?_
    walk_at "qk"
    refine ⟨_, rfl, ?_⟩
    rw [cutD1]
    walk_at "qk"
    rw [List.take_length]
    exact ⟨rfl, rfl⟩
  | .num, N, C, i, hN, hi, ho => by
    obtain ⟨n, rfl⟩ : ∃ n, N = n + 1 := ⟨N - 1, by omega⟩
    simp only [kd] at hN hi
    refine RE.to (q_fun rfl ?_)
    walk_at "qk"
    refine q_dec (fun h => absurd h (by omega)) (fun _ => ?_)
    walk_at "qk"
    refine ⟨rfl, RE.eq (form_ok .num (by omega)) ?_⟩
    walk_at "qk"
    simp only [encK]
    refine q_iT ?_
    walk_at "qk"
    refine ⟨_, rfl, ?_⟩
    rw [cutD1]
    walk_at "qk"
    rw [List.take_length]
    exact ⟨rfl, rfl⟩
  | .pair a b, N, C, i, hN, hi, ho => by
    obtain ⟨n, rfl⟩ : ∃ n, N = n + 1 := ⟨N - 1, by omega⟩
    simp only [kd] at hN hi
    simp only [DK.ok, Bool.and_eq_true] at ho
    refine RE.to (q_fun rfl ?_)
    walk_at "qk"
    refine q_dec (fun h => absurd h (by omega)) (fun _ => ?_)
    walk_at "qk"
    refine ⟨rfl, RE.eq (form_ok (.pair a b) (by omega)) ?_⟩
    walk_at "qk"
    simp only [encK]
    refine q_iT ?_
    walk_at "qk"
    refine ⟨_, rfl, ?_⟩
    rw [cutD1]
    walk_at "qk"
    refine ⟨rfl, RE.eq (within_ok a (by omega) (by omega) ho.1) ?_⟩
    walk_at "qk"
    refine ⟨rfl, RE.eq (within_ok b (by omega) (by omega) ho.2) ?_⟩
    walk_at "qk"
    rw [List.take_length]
    exact ⟨rfl, rfl⟩
  | .either a b, N, C, i, hN, hi, ho => by
    obtain ⟨n, rfl⟩ : ∃ n, N = n + 1 := ⟨N - 1, by omega⟩
    simp only [kd] at hN hi
    simp only [DK.ok, Bool.and_eq_true] at ho
    refine RE.to (q_fun rfl ?_)
    walk_at "qk"
    refine q_dec (fun h => absurd h (by omega)) (fun _ => ?_)
    walk_at "qk"
    refine ⟨rfl, RE.eq (form_ok (.either a b) (by omega)) ?_⟩
    walk_at "qk"
    simp only [encK]
    refine q_iT ?_
    walk_at "qk"
    refine ⟨_, rfl, ?_⟩
    rw [cutD1]
    walk_at "qk"
    refine ⟨rfl, RE.eq (within_ok a (by omega) (by omega) ho.1) ?_⟩
    walk_at "qk"
    refine ⟨rfl, RE.eq (within_ok b (by omega) (by omega) ho.2) ?_⟩
    walk_at "qk"
    rw [List.take_length]
    exact ⟨rfl, rfl⟩
  | .bag a, N, C, i, hN, hi, ho => by
    obtain ⟨n, rfl⟩ : ∃ n, N = n + 1 := ⟨N - 1, by omega⟩
    simp only [kd] at hN hi
    have ha : a.plain = true := ho
    refine RE.to (q_fun rfl ?_)
    walk_at "qk"
    refine q_dec (fun h => absurd h (by omega)) (fun _ => ?_)
    walk_at "qk"
    refine ⟨rfl, RE.eq (form_ok (.bag a) (by omega)) ?_⟩
    walk_at "qk"
    simp only [encK]
    refine q_iT ?_
    walk_at "qk"
    refine ⟨_, rfl, ?_⟩
    rw [cutD1]
    walk_at "qk"
    refine ⟨rfl, RE.eq (within_ok a (by omega) (by omega) (DK.plain_ok ha)) ?_⟩
    walk_at "qk"
    refine ⟨rfl, RE.eq (madeP a (by omega) ha) ?_⟩
    walk_at "qk"
    rw [List.take_length]
    exact ⟨rfl, rfl⟩
theorem kind_ok (c : DK) {N : Nat} {C : Cells} (hN : kd c + 2 ≤ N) (hi : kd c ≤ 90) (ho : c.ok = true) : m_is_kind N [.d (encK c)] C = some (.d (.bool true), C) := by
  obtain ⟨n, rfl⟩ : ∃ n, N = n + 1 := ⟨N - 1, by omega⟩
  refine RE.to (q_fun rfl ?_)
  walk_at "qk"
  refine ⟨rfl, RE.eq (within_ok c (by omega) (by omega) ho) ?_⟩
  walk_at "qk"
  rw [List.take_length]
  exact ⟨rfl, rfl⟩
theorem knownD (c : DK) {N : Nat} {C : Cells} (hN : kd c + 2 ≤ N) : m_is_known_data N [.d (encK c)] C = some (.d (.bool true), C) := by
  obtain ⟨n, rfl⟩ : ∃ n, N = n + 1 := ⟨N - 1, by omega⟩
  refine RE.to (q_fun rfl ?_)
  walk_at "qk"
  refine ⟨rfl, RE.eq (madeD c (by omega)) ?_⟩
  walk_at "qk"
  rw [List.take_length]
  exact ⟨rfl, rfl⟩
theorem dataK_ok (c : DK) {N : Nat} {C : Cells} (hN : kd c + 4 ≤ N) (hi : kd c ≤ 90) (ho : c.ok = true) : m_is_data_kind N [.d (encK c)] C = some (.d (.bool true), C) := by
  obtain ⟨n, rfl⟩ : ∃ n, N = n + 1 := ⟨N - 1, by omega⟩
  refine RE.to (q_fun rfl ?_)
  walk_at "qk"
  refine ⟨rfl, RE.eq (kind_ok c (by omega) hi ho) ?_⟩
  walk_at "qk"
  refine ⟨rfl, RE.eq (knownD c (by omega)) ?_⟩
  walk_at "qk"
  rw [List.take_length]
  exact ⟨rfl, rfl⟩
end N25
end
section
open M
local macro_rules | `(tactic| walk_at "q1") => `(tactic| (first
  | with_reducible refine q_seq ?_ | with_reducible refine q_sif ?_ | with_reducible refine q_asg ?_ | with_reducible refine q_ret ?_ | with_reducible refine q_next ?_ | with_reducible refine q_drop ?_ | with_reducible refine q_for ?_ | with_reducible refine q_par ?_ | with_reducible refine q_par3 ?_
  | ((with_reducible refine' q_var ?k1 ?_); (case k1 => rfl)) | with_reducible refine q_c ?_ | with_reducible refine q_op ?_ | with_reducible refine q_un ?_ | with_reducible refine q_cons ?_ | with_reducible refine q_nil ?_ | with_reducible refine q_cb ?_ | with_reducible refine q_ty ?_
  | with_reducible refine q_test ?_ | with_reducible refine q_if ?_ | with_reducible refine q_tup ?_ | with_reducible refine q_lst ?_ | with_reducible refine q_and ?_ | with_reducible refine q_or ?_ | with_reducible refine q_not ?_ | with_reducible refine q_andV ?_ | with_reducible refine q_orV ?_ | with_reducible refine q_notV ?_
  | with_reducible refine q_call ?_ | with_reducible refine q_callN ?_ | with_reducible refine q_sl ?_ | with_reducible refine q_onone ?_ | with_reducible refine q_osome ?_ | with_reducible refine q_gname ?_ | with_reducible refine q_gcons ?_ | with_reducible refine q_gnil ?_ | with_reducible refine q_gconsM ?_ | with_reducible refine q_gnilM ?_ | with_reducible refine q_gsub ?_ | ((with_reducible refine' q_gtup ?k1 ?_); (case k1 => rfl))
  | with_reducible refine q_leave ?_ | with_reducible refine q_yes ?_ | with_reducible refine q_it ?_ | with_reducible refine q_if0 ?_ | with_reducible refine q_iR1 ?_ | with_reducible refine q_lstC ?_ | with_reducible refine q_tru ?_ | with_reducible refine q_lc ?_
  | with_reducible refine RP.eq paddi ?_ | with_reducible refine RP.eq psubi ?_ | with_reducible refine RP.eq pinti ?_ | with_reducible refine RP.eq pintb ?_ | with_reducible refine RP.eq pabsi ?_ | with_reducible refine RP.eq pnegi ?_ | with_reducible refine RP.eq peqs ?_ | with_reducible refine RP.eq peqi ?_
  | with_reducible refine RP.eq pnes ?_ | with_reducible refine RP.eq pnei ?_ | with_reducible refine RP.eq pgti ?_ | with_reducible refine RP.eq plei ?_ | with_reducible refine RP.eq pgei ?_ | with_reducible refine RP.eq plti ?_ | with_reducible refine RP.eq plent ?_ | with_reducible refine RP.eq plenl ?_
  | with_reducible refine RP.eq psltt ?_ | with_reducible refine RP.eq psltl ?_
  | ((with_reducible refine' RP.eq (pmuli ?k1) ?_); (case k1 => first | (unfold L2.CMul; omega) | (unfold L2.CMul; decide))) | ((with_reducible refine' RP.eq (pmodi ?k1) ?_); (case k1 => first | omega | decide)) | ((with_reducible refine' RP.eq (pfdivi ?k1) ?_); (case k1 => unfold L2.CDiv; omega)) | ((with_reducible refine' RP.eq (pdivmodi ?k1) ?_); (case k1 => unfold L2.CDiv; omega)) | ((with_reducible refine' RP.eq (pdivmodWi ?k1 ?k2) ?_); (case k1 => omega); (case k2 => omega)) | ((with_reducible refine' RP.eq (ppowi ?k1) ?_); (case k1 => unfold L2.CPow; decide))
  | with_reducible refine q_asB ?_ | ((with_reducible refine' q_allD ?k1 ?_); (case k1 => rfl))
  | with_reducible refine Z.r_nt ?_ | with_reducible refine Z.r_nf ?_
  | with_reducible refine RP.eq isi_int_none ?_ | with_reducible refine RP.eq isi_int_bool ?_ | with_reducible refine RP.eq isi_int_int ?_ | with_reducible refine RP.eq isi_int_str ?_ | with_reducible refine RP.eq isi_int_tuple ?_ | with_reducible refine RP.eq isi_int_list ?_ | with_reducible refine RP.eq isi_bool_none ?_ | with_reducible refine RP.eq isi_bool_bool ?_ | with_reducible refine RP.eq isi_bool_int ?_ | with_reducible refine RP.eq isi_bool_str ?_ | with_reducible refine RP.eq isi_bool_tuple ?_ | with_reducible refine RP.eq isi_bool_list ?_ | with_reducible refine RP.eq isi_tuple_none ?_ | with_reducible refine RP.eq isi_tuple_bool ?_ | with_reducible refine RP.eq isi_tuple_int ?_ | with_reducible refine RP.eq isi_tuple_str ?_ | with_reducible refine RP.eq isi_tuple_tuple ?_ | with_reducible refine RP.eq isi_tuple_list ?_ | with_reducible refine RP.eq isi_str_none ?_ | with_reducible refine RP.eq isi_str_bool ?_ | with_reducible refine RP.eq isi_str_int ?_ | with_reducible refine RP.eq isi_str_str ?_ | with_reducible refine RP.eq isi_str_tuple ?_ | with_reducible refine RP.eq isi_str_list ?_ | with_reducible refine RP.eq isi_list_none ?_ | with_reducible refine RP.eq isi_list_bool ?_ | with_reducible refine RP.eq isi_list_int ?_ | with_reducible refine RP.eq isi_list_str ?_ | with_reducible refine RP.eq isi_list_tuple ?_ | with_reducible refine RP.eq isi_list_list ?_
  | with_reducible refine RP.eq isi_int ?_ | with_reducible refine RP.eq isi_bool ?_ | with_reducible refine RP.eq isi_tuple ?_ | with_reducible refine RP.eq isi_str ?_ | with_reducible refine RP.eq isi_list ?_
  | ((with_reducible refine' q_len ?k1 ?_); (case k1 => rfl)) | ((with_reducible refine' RP.eq (paddt ?k1) ?_); (case k1 => exact Nat.le_of_ble_eq_true rfl))
  | ((with_reducible refine' q_lcons ?k1 ?_); (case k1 => rfl)) | ((with_reducible refine' q_lnil ?k1 ?_); (case k1 => rfl)) | with_reducible refine q_tab ?_ | with_reducible refine q_isTab ?_ | with_reducible refine q_noTab ?_ | with_reducible refine q_str1 ?_ | with_reducible refine q_int1 ?_
  | with_reducible refine RP.eq ptuplel ?_
  | with_reducible refine RP.eq pix0 ?_ | with_reducible refine RP.eq pix1 ?_ | with_reducible refine RP.eq pix2 ?_))
local macro_rules | `(tactic| walk_at "qq") => `(tactic| repeat walk_at "q1")
local macro_rules | `(tactic| walk_at "cell") => `(tactic| first | assumption | (apply M.set_at; walk_at "cell"))
local macro_rules | `(tactic| walk_at "qc") => `(tactic| repeat (first
  | walk_at "q1"
  | ((refine' M.cIx ?k1 ?k2 ?_); (case k1 => walk_at "cell"); (case k2 => rfl))
  | ((refine' M.cSet ?k1 ?k2 ?_); (case k1 => walk_at "cell"); (case k2 => rfl))))
local macro_rules | `(tactic| walk_at "ks") => `(tactic| first | (refine M.q_dec (fun hs => absurd hs (by decide +kernel)) (fun _ => ?_)) | (refine M.q_dec (fun _ => ?_) (fun hs => absurd rfl hs)) | (refine M.q_ndec (fun _ => ?_) (fun hs => absurd hs (by decide +kernel))) | (refine M.q_ndec (fun hs => absurd rfl hs) (fun _ => ?_)))
local macro_rules | `(tactic| walk_at "qk") => `(tactic| repeat (first
  | walk_at "q1"
  | ((refine' M.cIx ?k1 ?k2 ?_); (case k1 => walk_at "cell"); (case k2 => rfl))
  | ((refine' M.cSet ?k1 ?k2 ?_); (case k1 => walk_at "cell"); (case k2 => rfl))
  | walk_at "ks"))
namespace N25
open PySem PySem.Spec PyProof.Rows L2 Z M
theorem encP_one : ∀ {x y : PV}, encP x = encP y → x = y
  | .unit, .unit, _ => rfl
  | .unit, .num _, h => nomatch h
  | .unit, .pair _ _, h => by simp [encP] at h
  | .unit, .left _, h => by simp [encP] at h
  | .unit, .right _, h => by simp [encP] at h
  | .num _, .unit, h => nomatch h
  | .num i, .num j, h => by simp only [encP, PyData.int.injEq] at h; rw [h]
  | .num _, .pair _ _, h => nomatch h
  | .num _, .left _, h => nomatch h
  | .num _, .right _, h => nomatch h
  | .pair _ _, .unit, h => by simp [encP] at h
  | .pair _ _, .num _, h => nomatch h
  | .pair a b, .pair c d, h => by
    simp only [encP, PyData.tuple.injEq, List.cons.injEq, and_true, true_and] at h
    rw [encP_one h.1, encP_one h.2]
  | .pair _ _, .left _, h => by simp [encP] at h
  | .pair _ _, .right _, h => by simp [encP] at h
  | .left _, .unit, h => by simp [encP] at h
  | .left _, .num _, h => nomatch h
  | .left _, .pair _ _, h => by simp [encP] at h
  | .left a, .left b, h => by
    simp only [encP, PyData.tuple.injEq, List.cons.injEq, and_true, true_and] at h
    rw [encP_one h]
  | .left _, .right _, h => by
    simp only [encP, PyData.tuple.injEq, List.cons.injEq, PyData.str.injEq] at h
    exact absurd h.1 (by decide +kernel)
  | .right _, .unit, h => by simp [encP] at h
  | .right _, .num _, h => nomatch h
  | .right _, .pair _ _, h => by simp [encP] at h
  | .right _, .left _, h => by
    simp only [encP, PyData.tuple.injEq, List.cons.injEq, PyData.str.injEq] at h
    exact absurd h.1 (by decide +kernel)
  | .right a, .right b, h => by
    simp only [encP, PyData.tuple.injEq, List.cons.injEq, and_true, true_and] at h
    rw [encP_one h]
theorem encR_one {p q : Z.Row} (h : encR p = encR q) : p = q := by
  simp only [encR, PyData.tuple.injEq, List.cons.injEq, PyData.int.injEq, and_true] at h
  exact Prod.ext (encP_one h.1) h.2
theorem encRs_one : ∀ {r s : Rows}, r.map encR = s.map encR → r = s
  | [], [], _ => rfl
  | [], _ :: _, h => by simp at h
  | _ :: _, [], h => by simp at h
  | p :: r, q :: s, h => by
    simp only [List.map_cons, List.cons.injEq] at h
    rw [encR_one h.1, encRs_one h.2]
theorem ltP_at {k : DK} {x y : PV} (h1 : hasP k x) (h2 : hasP k y) (h3 : pd x ≤ 30) (h4 : pd y ≤ 30) : M.ltP (encP x) (encP y) = some (PV.lt x y) := by
  unfold M.ltP
  have h : ∃ (k : DK) (p q : PV), encP x = encP p ∧ encP y = encP q ∧ hasP k p ∧ hasP k q ∧ pd p ≤ 30 ∧ pd q ≤ 30 := ⟨k, x, y, rfl, rfl, h1, h2, h3, h4⟩
  rw [dif_pos h]
  have z := h.choose_spec.choose_spec.choose_spec
  exact congrArg some (congr (congrArg PV.lt (encP_one z.1).symm) (encP_one z.2.1).symm)
theorem plt_at {C : Cells} {k : DK} {x y : PV} (h1 : hasP k x) (h2 : hasP k y) (h3 : pd x ≤ 30) (h4 : pd y ≤ 30) : pLt C (.d (encP x)) (.d (encP y)) = some (.bool (PV.lt x y)) := by
  have z : asS (.d (encP x)) = none := by cases x <;> rfl
  cases k with
  | num =>
    cases x <;> try exact h1.elim
    cases y <;> try exact h2.elim
    rfl
  | _ =>
    have z2 : asI (.d (encP x)) = none := by cases x <;> first | rfl | exact h1.elim
    unfold pLt
    rw [z2, z]
    show (M.ltP (encP x) (encP y)).bind _ = _
    rw [ltP_at h1 h2 h3 h4]
    rfl
theorem sort_at {C : Cells} {k : DK} {rows : Rows} (h : ∀ p ∈ rows, hasP k p.1 ∧ pd p.1 ≤ 30) : pSortR C [.d (.tuple (rows.map encR))] = some (.list ((sortRows rows).map encR)) := by
  show sortD (rows.map encR) = _
  unfold sortD
  have h0 : ∃ (r : Rows) (k : DK), rows.map encR = r.map encR ∧ ∀ p ∈ r, hasP k p.1 ∧ pd p.1 ≤ 30 := ⟨rows, k, rfl, h⟩
  rw [dif_pos h0]
  rw [← encRs_one h0.choose_spec.choose_spec.1]
noncomputable def vis (c : DK) (d : PyData) : Bool := @decide (∃ x, has c x ∧ d = encD x) (Classical.propDecidable _)
theorem vis_iff {c : DK} {d : PyData} : vis c d = true ↔ ∃ x, has c x ∧ d = encD x := by
  unfold vis
  exact @decide_eq_true_iff _ (Classical.propDecidable _)
theorem vis_eq {c : DK} {d : PyData} {b : Bool} (h : (∃ x, has c x ∧ d = encD x) ↔ b = true) : vis c d = b := by
  rw [Bool.eq_iff_iff, vis_iff, h]
theorem vis_no {c : DK} {d : PyData} (h : ∀ x, has c x → d ≠ encD x) : vis c d = false := vis_eq ⟨fun ⟨x, h1, h2⟩ => absurd h2 (h x h1), fun z => nomatch z⟩
theorem vis_of {c : DK} {x : DV} (h : has c x) : vis c (encD x) = true := vis_iff.mpr ⟨x, h, rfl⟩
theorem vis_num {d : PyData} : vis .num d = (tInt d && !tBool d) := vis_eq ⟨by
  rintro ⟨x, h, rfl⟩
  cases x <;> first | rfl | exact h.elim, fun h => by
  cases d <;> first | cases h; done | skip
  exact ⟨.num _, trivial, rfl⟩⟩
theorem vis_unit {ds : List PyData} : vis .unit (.tuple ds) = decide ((ds.length : Int) = 0) := vis_eq ⟨by
  rintro ⟨x, h, e⟩
  cases x <;> first | exact h.elim | skip
  cases e
  rfl, fun h => by
  have := of_decide_eq_true h
  cases ds with
  | nil => exact ⟨.unit, trivial, rfl⟩
  | cons _ _ => simp at this; omega⟩
theorem vis_tup {c : DK} {d : PyData} (hc : c ≠ .num) (h : tTup d = false) : vis c d = false := vis_no fun x hx e => by
  subst e
  cases c <;> cases x <;> first | exact hx.elim | exact absurd rfl hc | cases h
theorem has_of : ∀ {c : DK} {p : PV}, hasP c p → has c (ofP p)
  | .unit, .unit, _ => trivial
  | .num, .num _, _ => trivial
  | .pair a b, .pair x y, h => ⟨has_of h.1, has_of h.2⟩
  | .either a b, .left x, h => has_of (c := a) h
  | .either a b, .right x, h => has_of (c := b) h
theorem vis_pair {a b : DK} {x y : PyData} : vis (.pair a b) (.tuple [.str "pair", x, y]) = (vis a x && vis b y) := vis_eq (by
  rw [Bool.and_eq_true, vis_iff, vis_iff]
  constructor
  · rintro ⟨x, h, e⟩
    cases x <;> first | exact h.elim | skip
    simp only [Z.encD, PyData.tuple.injEq, List.cons.injEq, and_true, true_and] at e
    exact ⟨⟨_, h.1, e.1⟩, ⟨_, h.2, e.2⟩⟩
  · rintro ⟨⟨u, hu, rfl⟩, ⟨v, hv, rfl⟩⟩
    exact ⟨.pair u v, ⟨hu, hv⟩, rfl⟩)
theorem vis_pair_no {a b : DK} {d : PyData} (h : ∀ x y, d ≠ .tuple [.str "pair", x, y]) : vis (.pair a b) d = false := vis_no fun x hx e => by
  cases x <;> first | exact hx.elim | exact h _ _ e
theorem vis_left {a b : DK} {x : PyData} : vis (.either a b) (.tuple [.str "left", x]) = vis a x := vis_eq (by
  rw [vis_iff]
  constructor
  · rintro ⟨x, h, e⟩
    cases x <;> first | exact h.elim | skip
    · simp only [Z.encD, PyData.tuple.injEq, List.cons.injEq, and_true, true_and] at e
      exact ⟨_, h, e⟩
    · simp only [Z.encD, PyData.tuple.injEq, List.cons.injEq, PyData.str.injEq] at e
      exact absurd e.1 (by decide +kernel)
  · rintro ⟨u, hu, rfl⟩
    exact ⟨.left u, hu, rfl⟩)
theorem vis_right {a b : DK} {x : PyData} : vis (.either a b) (.tuple [.str "right", x]) = vis b x := vis_eq (by
  rw [vis_iff]
  constructor
  · rintro ⟨x, h, e⟩
    cases x <;> first | exact h.elim | skip
    · simp only [Z.encD, PyData.tuple.injEq, List.cons.injEq, PyData.str.injEq] at e
      exact absurd e.1 (by decide +kernel)
    · simp only [Z.encD, PyData.tuple.injEq, List.cons.injEq, and_true, true_and] at e
      exact ⟨_, h, e⟩
  · rintro ⟨u, hu, rfl⟩
    exact ⟨.right u, hu, rfl⟩)
theorem vis_either_no {a b : DK} {d : PyData} (h1 : ∀ x, d ≠ .tuple [.str "left", x]) (h2 : ∀ x, d ≠ .tuple [.str "right", x]) : vis (.either a b) d = false := vis_no fun x hx e => by
  cases x <;> first | exact hx.elim | exact h1 _ e | exact h2 _ e
theorem vis_bag_iff {a : DK} {d : PyData} : vis (.bag a) d = true ↔ ∃ r : Rows, Bagged r ∧ (∀ p ∈ r, hasP a p.1) ∧ d = .tuple (r.map encR) := by
  rw [vis_iff]
  constructor
  · rintro ⟨x, h, e⟩
    cases x <;> first | exact h.elim | skip
    exact ⟨_, h.1, h.2, e⟩
  · rintro ⟨r, h1, h2, e⟩
    exact ⟨.bag r, ⟨h1, h2⟩, e⟩
theorem vis_plain {a : DK} {d : PyData} (ha : a.plain = true) : vis a d = true ↔ ∃ p, hasP a p ∧ d = encP p := by
  rw [vis_iff]
  constructor
  · rintro ⟨x, h, e⟩
    obtain ⟨p, rfl, hp⟩ := has_plain ha h
    exact ⟨p, hp, by rw [e, encD_ofP]⟩
  · rintro ⟨p, h, e⟩
    exact ⟨ofP p, has_of h, by rw [e, encD_ofP]⟩
noncomputable def cis (a : DK) (d : PyData) : Bool := @decide (∃ p : Z.Row, hasP a p.1 ∧ d = encR p) (Classical.propDecidable _)
theorem cis_iff {a : DK} {d : PyData} : cis a d = true ↔ ∃ p : Z.Row, hasP a p.1 ∧ d = encR p := by
  unfold cis
  exact @decide_eq_true_iff _ (Classical.propDecidable _)
theorem cis_eq {a : DK} {d : PyData} {b : Bool} (h : (∃ p : Z.Row, hasP a p.1 ∧ d = encR p) ↔ b = true) : cis a d = b := by
  rw [Bool.eq_iff_iff, cis_iff, h]
theorem cis_two {a : DK} {x y : PyData} (ha : a.plain = true) : cis a (.tuple [x, y]) = (vis a x && (tInt y && !tBool y)) := cis_eq (by
  rw [Bool.and_eq_true, vis_plain ha, ← vis_num, vis_iff]
  constructor
  · rintro ⟨p, hp, e⟩
    simp only [encR, PyData.tuple.injEq, List.cons.injEq, and_true] at e
    exact ⟨⟨_, hp, e.1⟩, ⟨.num p.2, trivial, e.2⟩⟩
  · rintro ⟨⟨p, hp, rfl⟩, ⟨v, hv, rfl⟩⟩
    cases v <;> first | exact hv.elim | skip
    exact ⟨(p, _), hp, rfl⟩)
theorem cis_no {a : DK} {d : PyData} (h : ∀ x y, d ≠ .tuple [x, y]) : cis a d = false := cis_eq ⟨fun ⟨p, _, e⟩ => absurd e (h _ _), fun z => nomatch z⟩
theorem rows_of {a : DK} : ∀ {ds : List PyData}, (∀ d ∈ ds, ∃ p : Z.Row, (hasP a p.1 ∧ p.2 ≠ 0) ∧ d = encR p) → ∃ r : Rows, ds = r.map encR ∧ ∀ p ∈ r, hasP a p.1 ∧ p.2 ≠ 0
  | [], _ => ⟨[], rfl, fun _ z => nomatch z⟩
  | d :: ds, h => by
    obtain ⟨p, hp, rfl⟩ := h d List.mem_cons_self
    obtain ⟨r, rfl, hr⟩ := rows_of fun d hd => h d (List.mem_cons_of_mem _ hd)
    refine ⟨p :: r, rfl, fun q hq => ?_⟩
    rcases List.mem_cons.mp hq with rfl | hq
    · exact hp
    · exact hr q hq
theorem asc_of : ∀ {r : Rows}, (∀ i p q, r[i]? = some p → r[i + 1]? = some q → PV.lt p.1 q.1 = true) → Asc r
  | [], _ => List.Pairwise.nil
  | [p], _ => List.pairwise_singleton _ _
  | p :: q :: r, h => by
    have ih : Asc (q :: r) := asc_of fun i x y h1 h2 => h (i + 1) x y (by rw [List.getElem?_cons_succ]; exact h1) (by rw [List.getElem?_cons_succ]; exact h2)
    have l := h 0 p q rfl rfl
    refine List.pairwise_cons.mpr ⟨fun z hz => ?_, ih⟩
    rcases List.mem_cons.mp hz with rfl | hz
    · exact l
    · exact PV.lt_trans _ _ _ l ((List.pairwise_cons.mp ih).1 z hz)
theorem asc_at {r : Rows} (h : Asc r) {i : Nat} {p q : Z.Row} (h1 : r[i]? = some p) (h2 : r[i + 1]? = some q) : PV.lt p.1 q.1 = true := by
  obtain ⟨l1, e1⟩ := List.getElem?_eq_some_iff.mp h1
  obtain ⟨l2, e2⟩ := List.getElem?_eq_some_iff.mp h2
  have z := List.pairwise_iff_getElem.mp h i (i + 1) l1 l2 (by omega)
  rw [e1, e2] at z
  exact z
end N25
end
section
open M
local macro_rules | `(tactic| walk_at "q1") => `(tactic| (first
  | with_reducible refine q_seq ?_ | with_reducible refine q_sif ?_ | with_reducible refine q_asg ?_ | with_reducible refine q_ret ?_ | with_reducible refine q_next ?_ | with_reducible refine q_drop ?_ | with_reducible refine q_for ?_ | with_reducible refine q_par ?_ | with_reducible refine q_par3 ?_
  | ((with_reducible refine' q_var ?k1 ?_); (case k1 => rfl)) | with_reducible refine q_c ?_ | with_reducible refine q_op ?_ | with_reducible refine q_un ?_ | with_reducible refine q_cons ?_ | with_reducible refine q_nil ?_ | with_reducible refine q_cb ?_ | with_reducible refine q_ty ?_
  | with_reducible refine q_test ?_ | with_reducible refine q_if ?_ | with_reducible refine q_tup ?_ | with_reducible refine q_lst ?_ | with_reducible refine q_and ?_ | with_reducible refine q_or ?_ | with_reducible refine q_not ?_ | with_reducible refine q_andV ?_ | with_reducible refine q_orV ?_ | with_reducible refine q_notV ?_
  | with_reducible refine q_call ?_ | with_reducible refine q_callN ?_ | with_reducible refine q_sl ?_ | with_reducible refine q_onone ?_ | with_reducible refine q_osome ?_ | with_reducible refine q_gname ?_ | with_reducible refine q_gcons ?_ | with_reducible refine q_gnil ?_ | with_reducible refine q_gconsM ?_ | with_reducible refine q_gnilM ?_ | with_reducible refine q_gsub ?_ | ((with_reducible refine' q_gtup ?k1 ?_); (case k1 => rfl))
  | with_reducible refine q_leave ?_ | with_reducible refine q_yes ?_ | with_reducible refine q_it ?_ | with_reducible refine q_if0 ?_ | with_reducible refine q_iR1 ?_ | with_reducible refine q_lstC ?_ | with_reducible refine q_tru ?_ | with_reducible refine q_lc ?_
  | with_reducible refine RP.eq paddi ?_ | with_reducible refine RP.eq psubi ?_ | with_reducible refine RP.eq pinti ?_ | with_reducible refine RP.eq pintb ?_ | with_reducible refine RP.eq pabsi ?_ | with_reducible refine RP.eq pnegi ?_ | with_reducible refine RP.eq peqs ?_ | with_reducible refine RP.eq peqi ?_
  | with_reducible refine RP.eq pnes ?_ | with_reducible refine RP.eq pnei ?_ | with_reducible refine RP.eq pgti ?_ | with_reducible refine RP.eq plei ?_ | with_reducible refine RP.eq pgei ?_ | with_reducible refine RP.eq plti ?_ | with_reducible refine RP.eq plent ?_ | with_reducible refine RP.eq plenl ?_
  | with_reducible refine RP.eq psltt ?_ | with_reducible refine RP.eq psltl ?_
  | ((with_reducible refine' RP.eq (pmuli ?k1) ?_); (case k1 => first | (unfold L2.CMul; omega) | (unfold L2.CMul; decide))) | ((with_reducible refine' RP.eq (pmodi ?k1) ?_); (case k1 => first | omega | decide)) | ((with_reducible refine' RP.eq (pfdivi ?k1) ?_); (case k1 => unfold L2.CDiv; omega)) | ((with_reducible refine' RP.eq (pdivmodi ?k1) ?_); (case k1 => unfold L2.CDiv; omega)) | ((with_reducible refine' RP.eq (pdivmodWi ?k1 ?k2) ?_); (case k1 => omega); (case k2 => omega)) | ((with_reducible refine' RP.eq (ppowi ?k1) ?_); (case k1 => unfold L2.CPow; decide))
  | with_reducible refine q_asB ?_ | ((with_reducible refine' q_allD ?k1 ?_); (case k1 => rfl))
  | with_reducible refine Z.r_nt ?_ | with_reducible refine Z.r_nf ?_
  | with_reducible refine RP.eq isi_int_none ?_ | with_reducible refine RP.eq isi_int_bool ?_ | with_reducible refine RP.eq isi_int_int ?_ | with_reducible refine RP.eq isi_int_str ?_ | with_reducible refine RP.eq isi_int_tuple ?_ | with_reducible refine RP.eq isi_int_list ?_ | with_reducible refine RP.eq isi_bool_none ?_ | with_reducible refine RP.eq isi_bool_bool ?_ | with_reducible refine RP.eq isi_bool_int ?_ | with_reducible refine RP.eq isi_bool_str ?_ | with_reducible refine RP.eq isi_bool_tuple ?_ | with_reducible refine RP.eq isi_bool_list ?_ | with_reducible refine RP.eq isi_tuple_none ?_ | with_reducible refine RP.eq isi_tuple_bool ?_ | with_reducible refine RP.eq isi_tuple_int ?_ | with_reducible refine RP.eq isi_tuple_str ?_ | with_reducible refine RP.eq isi_tuple_tuple ?_ | with_reducible refine RP.eq isi_tuple_list ?_ | with_reducible refine RP.eq isi_str_none ?_ | with_reducible refine RP.eq isi_str_bool ?_ | with_reducible refine RP.eq isi_str_int ?_ | with_reducible refine RP.eq isi_str_str ?_ | with_reducible refine RP.eq isi_str_tuple ?_ | with_reducible refine RP.eq isi_str_list ?_ | with_reducible refine RP.eq isi_list_none ?_ | with_reducible refine RP.eq isi_list_bool ?_ | with_reducible refine RP.eq isi_list_int ?_ | with_reducible refine RP.eq isi_list_str ?_ | with_reducible refine RP.eq isi_list_tuple ?_ | with_reducible refine RP.eq isi_list_list ?_
  | with_reducible refine RP.eq isi_int ?_ | with_reducible refine RP.eq isi_bool ?_ | with_reducible refine RP.eq isi_tuple ?_ | with_reducible refine RP.eq isi_str ?_ | with_reducible refine RP.eq isi_list ?_
  | ((with_reducible refine' q_len ?k1 ?_); (case k1 => rfl)) | ((with_reducible refine' RP.eq (paddt ?k1) ?_); (case k1 => exact Nat.le_of_ble_eq_true rfl))
  | ((with_reducible refine' q_lcons ?k1 ?_); (case k1 => rfl)) | ((with_reducible refine' q_lnil ?k1 ?_); (case k1 => rfl)) | with_reducible refine q_tab ?_ | with_reducible refine q_isTab ?_ | with_reducible refine q_noTab ?_ | with_reducible refine q_str1 ?_ | with_reducible refine q_int1 ?_
  | with_reducible refine RP.eq ptuplel ?_
  | with_reducible refine RP.eq pix0 ?_ | with_reducible refine RP.eq pix1 ?_ | with_reducible refine RP.eq pix2 ?_))
local macro_rules | `(tactic| walk_at "qq") => `(tactic| repeat walk_at "q1")
local macro_rules | `(tactic| walk_at "cell") => `(tactic| first | assumption | (apply M.set_at; walk_at "cell"))
local macro_rules | `(tactic| walk_at "qc") => `(tactic| repeat (first
  | walk_at "q1"
  | ((refine' M.cIx ?k1 ?k2 ?_); (case k1 => walk_at "cell"); (case k2 => rfl))
  | ((refine' M.cSet ?k1 ?k2 ?_); (case k1 => walk_at "cell"); (case k2 => rfl))))
local macro_rules | `(tactic| walk_at "ks") => `(tactic| first | (refine M.q_dec (fun hs => absurd hs (by decide +kernel)) (fun _ => ?_)) | (refine M.q_dec (fun _ => ?_) (fun hs => absurd rfl hs)) | (refine M.q_ndec (fun _ => ?_) (fun hs => absurd hs (by decide +kernel))) | (refine M.q_ndec (fun hs => absurd rfl hs) (fun _ => ?_)))
local macro_rules | `(tactic| walk_at "qk") => `(tactic| repeat (first
  | walk_at "q1"
  | ((refine' M.cIx ?k1 ?k2 ?_); (case k1 => walk_at "cell"); (case k2 => rfl))
  | ((refine' M.cSet ?k1 ?k2 ?_); (case k1 => walk_at "cell"); (case k2 => rfl))
  | walk_at "ks"))
namespace N25
open PySem PySem.Spec PyProof.Rows L2 Z M
theorem pwhole_eq {N : Nat} {C : Cells} (d : PyData) (hN : 1 ≤ N) : m_is_whole N [.d d] C = some (.d (.bool (tInt d && !tBool d)), C) := by
  obtain ⟨n, rfl⟩ : ∃ n, N = n + 1 := ⟨N - 1, by omega⟩
  refine RE.to (q_fun rfl ?_)
  walk_at "qc"
  refine q_bool (fun h => ?_) (fun h => ?_)
  · walk_at "qc"
    rw [List.take_length, h]
    exact ⟨rfl, rfl⟩
  · walk_at "qc"
    rw [List.take_length, h]
    exact ⟨rfl, rfl⟩
def isS (s : Str) : PyData → Bool
  | .str t => decide (t = s)
  | _ => false
def bg (ds : List PyData) (s : Str) (k : Int) : Bool := decide ((ds.length : Int) = k) && (match ds with | x :: _ => isS s x | [] => false)
theorem bg3 {ds : List PyData} {s : Str} (h : bg ds s 3 = true) : ∃ x y, ds = [.str s, x, y] := by
  unfold bg at h
  rw [Bool.and_eq_true, decide_eq_true_iff] at h
  obtain ⟨h1, h2⟩ := h
  match ds, h1, h2 with
  | [.str t, x, y], h1, h2 => exact ⟨x, y, by rw [show t = s from of_decide_eq_true h2]⟩
  | [], h1, h2 => simp at h1
  | [_], h1, h2 => simp at h1
  | [_, _], h1, h2 => simp at h1
  | _ :: _ :: _ :: _ :: _, h1, h2 => simp at h1; omega
theorem bg2 {ds : List PyData} {s : Str} (h : bg ds s 2 = true) : ∃ x, ds = [.str s, x] := by
  unfold bg at h
  rw [Bool.and_eq_true, decide_eq_true_iff] at h
  obtain ⟨h1, h2⟩ := h
  match ds, h1, h2 with
  | [.str t, x], h1, h2 => exact ⟨x, by rw [show t = s from of_decide_eq_true h2]⟩
  | [], h1, h2 => simp at h1
  | [_], h1, h2 => simp at h1
  | _ :: _ :: _ :: _, h1, h2 => simp at h1; omega
theorem tStr_str {x : PyData} (h : tStr x = true) : ∃ t, x = .str t := by
  cases x <;> first | exact ⟨_, rfl⟩ | cases h
theorem begins_eq {N : Nat} {C : Cells} {ds : List PyData} {s : Str} {k : Int} (hN : 1 ≤ N) (hk : 0 < k) : m__begins N [.d (.tuple ds), .d (.str s), .d (.int k)] C = some (.d (.bool (bg ds s k)), C) := by
  obtain ⟨n, rfl⟩ : ∃ n, N = n + 1 := ⟨N - 1, by omega⟩
  refine RE.to (q_fun rfl ?_)
  walk_at "qc"
  refine q_dec (fun h => ?_) (fun h => ?_)
  · match ds, h with
    | [], h => simp at h; omega
    | x :: xs, h =>
      walk_at "qc"
      refine q_bool (fun h2 => ?_) (fun h2 => ?_)
      · obtain ⟨t, rfl⟩ := tStr_str h2
        walk_at "qc"
        rw [List.take_length]
        refine ⟨?_, rfl⟩
        unfold bg
        rw [decide_eq_true h]
        rfl
      · walk_at "qc"
        rw [List.take_length]
        refine ⟨?_, rfl⟩
        unfold bg
        rw [decide_eq_true h]
        cases x <;> first | rfl | cases h2
  · walk_at "qc"
    rw [List.take_length]
    refine ⟨?_, rfl⟩
    unfold bg
    rw [decide_eq_false h]
    rfl
theorem two_of {ds : List PyData} (h : (ds.length : Int) = 2) : ∃ x y, ds = [x, y] := by
  match ds, h with
  | [x, y], _ => exact ⟨x, y, rfl⟩
  | [], h => simp at h
  | [_], h => simp at h
  | _ :: _ :: _ :: _, h => simp at h; omega
def IsOf (f : Nat → FM) (a : DK) : Prop := ∀ {N : Nat} {C : Cells} (d : PyData), 3 * kd a ≤ N → tidy d = true → f N [.d (encK a), .d d] C = some (.d (.bool (vis a d)), C)
theorem nt_tup {d : PyData} (h : ¬ ∃ ds, d = .tuple ds) : tTup d = false := by
  cases d <;> first | rfl | exact absurd ⟨_, rfl⟩ h
theorem counted_ok {a : DK} (ha : a.plain = true) (ih : IsOf m_is_of a) {N : Nat} {C : Cells} (d : PyData) (hN : 3 * kd a + 1 ≤ N) (hd : tidy d = true) : m__is_counted N [.d (encK a), .d d] C = some (.d (.bool (cis a d)), C) := by
  obtain ⟨n, rfl⟩ : ∃ n, N = n + 1 := ⟨N - 1, by omega⟩
  have kp := kd_pos a
  refine RE.to (q_fun rfl ?_)
  by_cases ht : ∃ ds, d = .tuple ds
  · obtain ⟨ds, rfl⟩ := ht
    walk_at "qc"
    refine q_ndec (fun h => ?_) (fun h => ?_)
    · walk_at "qc"
      rw [List.take_length, cis_no fun x y e => h (by rw [(PyData.tuple.inj e)]; rfl)]
      exact ⟨rfl, rfl⟩
    · obtain ⟨x, y, rfl⟩ := two_of h
      have hx := tidy_mem (tidy_tup hd).2 (d := x) (by simp)
      walk_at "qc"
      refine ⟨rfl, RE.eq (ih x (by omega) hx) ?_⟩
      walk_at "qc"
      refine q_bool (fun h2 => ?_) (fun h2 => ?_)
      · walk_at "qc"
        refine ⟨rfl, RE.eq (pwhole_eq y (by omega)) ?_⟩
        walk_at "qc"
        rw [List.take_length, cis_two ha, h2, Bool.true_and]
        exact ⟨rfl, rfl⟩
      · walk_at "qc"
        rw [List.take_length, cis_two ha, h2, Bool.false_and]
        exact ⟨rfl, rfl⟩
  · walk_at "qc"
    rw [nt_tup ht]
    walk_at "qc"
    rw [List.take_length, cis_no fun x y e => ht ⟨_, e⟩]
    exact ⟨rfl, rfl⟩
theorem cut1 (ds : List PyData) : Z.cutD ds (some 1) none = ds.tail := by
  cases ds with
  | nil => rfl
  | cons d ds => exact cutD1 d ds
theorem map_at {ds : List PyData} {i : Nat} {av : AV} (h : (ds.map AV.d)[i]? = some av) : ∃ d, ds[i]? = some d ∧ av = .d d := by
  rw [List.getElem?_map] at h
  cases e : ds[i]? with
  | none => rw [e] at h; cases h
  | some d => rw [e] at h; cases h; exact ⟨d, rfl, rfl⟩
theorem vis_row_no {a : DK} {ds : List PyData} {d : PyData} (hd : d ∈ ds) (h : ∀ p : Z.Row, hasP a p.1 → p.2 ≠ 0 → d ≠ encR p) : vis (.bag a) (.tuple ds) = false := by
  cases e : vis (.bag a) (.tuple ds) with
  | false => rfl
  | true =>
    obtain ⟨r, h1, h2, h3⟩ := vis_bag_iff.mp e
    rw [PyData.tuple.inj h3] at hd
    obtain ⟨p, hp, rfl⟩ := List.mem_map.mp hd
    exact absurd rfl (h p (h2 p hp) (h1.nz p hp))
theorem vis_asc_no {a : DK} {r : Rows} (h : ¬ Asc r) : vis (.bag a) (.tuple (r.map encR)) = false := by
  cases e : vis (.bag a) (.tuple (r.map encR)) with
  | false => rfl
  | true =>
    obtain ⟨s, h1, h2, h3⟩ := vis_bag_iff.mp e
    rw [encRs_one (PyData.tuple.inj h3)] at h
    exact absurd h1.asc h
theorem isbag_ok {a : DK} (ha : a.plain = true) (hk : kd a ≤ 30) (ih : IsOf m_is_of a) {N : Nat} {C : Cells} (ds : List PyData) (hN : 3 * kd a + 2 ≤ N) (hd : tidy (.tuple ds) = true) : m__is_bag N [.d (encK a), .d (.tuple ds)] C = some (.d (.bool (vis (.bag a) (.tuple ds))), C) := by
  obtain ⟨n, rfl⟩ : ∃ n, N = n + 1 := ⟨N - 1, by omega⟩
  refine RE.to (q_fun rfl ?_)
  walk_at "qk"
  refine q_iT ?_
  walk_at "qk"
  refine ⟨_, rfl, ?_⟩
  refine q_loop (fun i env' C' => (∃ e2 e3 e4, env' = [some (.d (encK a)), some (.d (.tuple ds)), e2, e3, e4]) ∧ C' = C ∧ ∀ d ∈ ds.take i, ∃ p : Z.Row, (hasP a p.1 ∧ p.2 ≠ 0) ∧ d = encR p) ⟨⟨none, none, none, rfl⟩, rfl, fun _ z => nomatch z⟩ (fun _ _ _ _ => rfl) ?_ ?_
  · rintro i av env' C' hi ⟨⟨e2, e3, e4, rfl⟩, rfl, hall⟩
    obtain ⟨d, hdi, rfl⟩ := map_at hi
    have hmem := List.mem_of_getElem? hdi
    walk_at "qk"
    refine ⟨rfl, RE.eq (counted_ok ha ih d (by omega) (tidy_mem (tidy_tup hd).2 hmem)) ?_⟩
    walk_at "qk"
    refine q_nbool (fun h => ?_) (fun h => ?_)
    · walk_at "qk"
      rw [List.take_length, vis_row_no hmem fun p h1 _ e => by rw [cis_iff.mpr ⟨p, h1, e⟩] at h; cases h]
      exact ⟨rfl, rfl⟩
    · obtain ⟨p, hp, e⟩ := cis_iff.mp h
      have e : d = .tuple [encP p.1, .int p.2] := e
      subst e
      walk_at "qk"
      refine q_dec (fun h0 => ?_) (fun h0 => ?_)
      · walk_at "qk"
        rw [List.take_length, vis_row_no hmem fun q h1 h2 e => h2 (by rw [← encR_one (p := p) (q := q) e]; exact h0)]
        exact ⟨rfl, rfl⟩
      · walk_at "qk"
        refine ⟨⟨_, _, _, rfl⟩, rfl, fun d hd => ?_⟩
        rw [take_next hdi] at hd
        rcases List.mem_append.mp hd with hd | hd
        · exact hall d hd
        · rw [List.mem_singleton.mp hd]
          exact ⟨p, ⟨hp, h0⟩, rfl⟩
  · rintro env' C' ⟨⟨e2, e3, e4, rfl⟩, rfl, hall⟩
    rw [List.length_map, List.take_length] at hall
    obtain ⟨r, rfl, hr⟩ := rows_of hall
    walk_at "qk"
    refine q_iZT ?_
    walk_at "qk"
    refine ⟨_, _, rfl, ?_⟩
    rw [cut1]
    have bound : ∀ p ∈ r, pd p.1 ≤ 30 := fun p hp => Nat.le_trans (pd_le (hr p hp).1) hk
    refine q_loop (fun i env' E => (∃ e2 e3 e4, env' = [some (.d (encK a)), some (.d (.tuple (r.map encR))), e2, e3, e4]) ∧ E = C' ∧ ∀ k, k < i → ∀ p q, r[k]? = some p → r[k + 1]? = some q → PV.lt p.1 q.1 = true) ⟨⟨_, _, _, rfl⟩, rfl, fun _ z => absurd z (by omega)⟩ (fun _ _ _ _ => rfl) ?_ ?_
    · rintro i av env' C' hi ⟨⟨e2, e3, e4, rfl⟩, rfl, hall⟩
      obtain ⟨x, y, hx, hy, rfl⟩ := zipD_at hi
      rw [List.getElem?_tail] at hy
      rw [List.getElem?_map] at hx hy
      cases ex : r[i]? with
      | none => rw [ex] at hx; cases hx
      | some p =>
      cases ey : r[i + 1]? with
      | none => rw [ey] at hy; cases hy
      | some q =>
      rw [ex] at hx
      rw [ey] at hy
      have e1 : x = .tuple [encP p.1, .int p.2] := (Option.some.inj hx).symm
      have e2 : y = .tuple [encP q.1, .int q.2] := (Option.some.inj hy).symm
      subst e1 e2
      have mp := List.mem_of_getElem? ex
      have mq := List.mem_of_getElem? ey
      walk_at "qk"
      refine RP.eq (plt_at (hr p mp).1 (hr q mq).1 (bound p mp) (bound q mq)) ?_
      walk_at "qk"
      refine q_nbool (fun h => ?_) (fun h => ?_)
      · walk_at "qk"
        rw [List.take_length, vis_asc_no fun z => by rw [asc_at z ex ey] at h; cases h]
        exact ⟨rfl, rfl⟩
      · walk_at "qk"
        refine ⟨⟨_, _, _, rfl⟩, rfl, fun k hk p' q' h1 h2 => ?_⟩
        by_cases hki : k < i
        · exact hall k hki p' q' h1 h2
        · have : k = i := by omega
          subst this
          rw [ex] at h1
          rw [ey] at h2
          cases h1
          cases h2
          exact h
    · rintro env' C' ⟨⟨e2, e3, e4, rfl⟩, rfl, hall⟩
      have asc : Asc r := asc_of fun i p q h1 h2 => by
        refine hall i ?_ p q h1 h2
        have := (List.getElem?_eq_some_iff.mp h2).1
        rw [zipD_len, List.length_tail, List.length_map]
        omega
      walk_at "qk"
      rw [List.take_length, vis_bag_iff.mpr ⟨r, ⟨asc, fun p hp => (hr p hp).2⟩, fun p hp => (hr p hp).1, rfl⟩]
      exact ⟨rfl, rfl⟩
end N25
end
section
open M
local macro_rules | `(tactic| walk_at "q1") => `(tactic| (first
  | with_reducible refine q_seq ?_ | with_reducible refine q_sif ?_ | with_reducible refine q_asg ?_ | with_reducible refine q_ret ?_ | with_reducible refine q_next ?_ | with_reducible refine q_drop ?_ | with_reducible refine q_for ?_ | with_reducible refine q_par ?_ | with_reducible refine q_par3 ?_
  | ((with_reducible refine' q_var ?k1 ?_); (case k1 => rfl)) | with_reducible refine q_c ?_ | with_reducible refine q_op ?_ | with_reducible refine q_un ?_ | with_reducible refine q_cons ?_ | with_reducible refine q_nil ?_ | with_reducible refine q_cb ?_ | with_reducible refine q_ty ?_
  | with_reducible refine q_test ?_ | with_reducible refine q_if ?_ | with_reducible refine q_tup ?_ | with_reducible refine q_lst ?_ | with_reducible refine q_and ?_ | with_reducible refine q_or ?_ | with_reducible refine q_not ?_ | with_reducible refine q_andV ?_ | with_reducible refine q_orV ?_ | with_reducible refine q_notV ?_
  | with_reducible refine q_call ?_ | with_reducible refine q_callN ?_ | with_reducible refine q_sl ?_ | with_reducible refine q_onone ?_ | with_reducible refine q_osome ?_ | with_reducible refine q_gname ?_ | with_reducible refine q_gcons ?_ | with_reducible refine q_gnil ?_ | with_reducible refine q_gconsM ?_ | with_reducible refine q_gnilM ?_ | with_reducible refine q_gsub ?_ | ((with_reducible refine' q_gtup ?k1 ?_); (case k1 => rfl))
  | with_reducible refine q_leave ?_ | with_reducible refine q_yes ?_ | with_reducible refine q_it ?_ | with_reducible refine q_if0 ?_ | with_reducible refine q_iR1 ?_ | with_reducible refine q_lstC ?_ | with_reducible refine q_tru ?_ | with_reducible refine q_lc ?_
  | with_reducible refine RP.eq paddi ?_ | with_reducible refine RP.eq psubi ?_ | with_reducible refine RP.eq pinti ?_ | with_reducible refine RP.eq pintb ?_ | with_reducible refine RP.eq pabsi ?_ | with_reducible refine RP.eq pnegi ?_ | with_reducible refine RP.eq peqs ?_ | with_reducible refine RP.eq peqi ?_
  | with_reducible refine RP.eq pnes ?_ | with_reducible refine RP.eq pnei ?_ | with_reducible refine RP.eq pgti ?_ | with_reducible refine RP.eq plei ?_ | with_reducible refine RP.eq pgei ?_ | with_reducible refine RP.eq plti ?_ | with_reducible refine RP.eq plent ?_ | with_reducible refine RP.eq plenl ?_
  | with_reducible refine RP.eq psltt ?_ | with_reducible refine RP.eq psltl ?_
  | ((with_reducible refine' RP.eq (pmuli ?k1) ?_); (case k1 => first | (unfold L2.CMul; omega) | (unfold L2.CMul; decide))) | ((with_reducible refine' RP.eq (pmodi ?k1) ?_); (case k1 => first | omega | decide)) | ((with_reducible refine' RP.eq (pfdivi ?k1) ?_); (case k1 => unfold L2.CDiv; omega)) | ((with_reducible refine' RP.eq (pdivmodi ?k1) ?_); (case k1 => unfold L2.CDiv; omega)) | ((with_reducible refine' RP.eq (pdivmodWi ?k1 ?k2) ?_); (case k1 => omega); (case k2 => omega)) | ((with_reducible refine' RP.eq (ppowi ?k1) ?_); (case k1 => unfold L2.CPow; decide))
  | with_reducible refine q_asB ?_ | ((with_reducible refine' q_allD ?k1 ?_); (case k1 => rfl))
  | with_reducible refine Z.r_nt ?_ | with_reducible refine Z.r_nf ?_
  | with_reducible refine RP.eq isi_int_none ?_ | with_reducible refine RP.eq isi_int_bool ?_ | with_reducible refine RP.eq isi_int_int ?_ | with_reducible refine RP.eq isi_int_str ?_ | with_reducible refine RP.eq isi_int_tuple ?_ | with_reducible refine RP.eq isi_int_list ?_ | with_reducible refine RP.eq isi_bool_none ?_ | with_reducible refine RP.eq isi_bool_bool ?_ | with_reducible refine RP.eq isi_bool_int ?_ | with_reducible refine RP.eq isi_bool_str ?_ | with_reducible refine RP.eq isi_bool_tuple ?_ | with_reducible refine RP.eq isi_bool_list ?_ | with_reducible refine RP.eq isi_tuple_none ?_ | with_reducible refine RP.eq isi_tuple_bool ?_ | with_reducible refine RP.eq isi_tuple_int ?_ | with_reducible refine RP.eq isi_tuple_str ?_ | with_reducible refine RP.eq isi_tuple_tuple ?_ | with_reducible refine RP.eq isi_tuple_list ?_ | with_reducible refine RP.eq isi_str_none ?_ | with_reducible refine RP.eq isi_str_bool ?_ | with_reducible refine RP.eq isi_str_int ?_ | with_reducible refine RP.eq isi_str_str ?_ | with_reducible refine RP.eq isi_str_tuple ?_ | with_reducible refine RP.eq isi_str_list ?_ | with_reducible refine RP.eq isi_list_none ?_ | with_reducible refine RP.eq isi_list_bool ?_ | with_reducible refine RP.eq isi_list_int ?_ | with_reducible refine RP.eq isi_list_str ?_ | with_reducible refine RP.eq isi_list_tuple ?_ | with_reducible refine RP.eq isi_list_list ?_
  | with_reducible refine RP.eq isi_int ?_ | with_reducible refine RP.eq isi_bool ?_ | with_reducible refine RP.eq isi_tuple ?_ | with_reducible refine RP.eq isi_str ?_ | with_reducible refine RP.eq isi_list ?_
  | ((with_reducible refine' q_len ?k1 ?_); (case k1 => rfl)) | ((with_reducible refine' RP.eq (paddt ?k1) ?_); (case k1 => exact Nat.le_of_ble_eq_true rfl))
  | ((with_reducible refine' q_lcons ?k1 ?_); (case k1 => rfl)) | ((with_reducible refine' q_lnil ?k1 ?_); (case k1 => rfl)) | with_reducible refine q_tab ?_ | with_reducible refine q_isTab ?_ | with_reducible refine q_noTab ?_ | with_reducible refine q_str1 ?_ | with_reducible refine q_int1 ?_
  | with_reducible refine RP.eq ptuplel ?_
  | with_reducible refine RP.eq pix0 ?_ | with_reducible refine RP.eq pix1 ?_ | with_reducible refine RP.eq pix2 ?_))
local macro_rules | `(tactic| walk_at "qq") => `(tactic| repeat walk_at "q1")
local macro_rules | `(tactic| walk_at "cell") => `(tactic| first | assumption | (apply M.set_at; walk_at "cell"))
local macro_rules | `(tactic| walk_at "qc") => `(tactic| repeat (first
  | walk_at "q1"
  | ((refine' M.cIx ?k1 ?k2 ?_); (case k1 => walk_at "cell"); (case k2 => rfl))
  | ((refine' M.cSet ?k1 ?k2 ?_); (case k1 => walk_at "cell"); (case k2 => rfl))))
local macro_rules | `(tactic| walk_at "ks") => `(tactic| first | (refine M.q_dec (fun hs => absurd hs (by decide +kernel)) (fun _ => ?_)) | (refine M.q_dec (fun _ => ?_) (fun hs => absurd rfl hs)) | (refine M.q_ndec (fun _ => ?_) (fun hs => absurd hs (by decide +kernel))) | (refine M.q_ndec (fun hs => absurd rfl hs) (fun _ => ?_)))
local macro_rules | `(tactic| walk_at "qk") => `(tactic| repeat (first
  | walk_at "q1"
  | ((refine' M.cIx ?k1 ?k2 ?_); (case k1 => walk_at "cell"); (case k2 => rfl))
  | ((refine' M.cSet ?k1 ?k2 ?_); (case k1 => walk_at "cell"); (case k2 => rfl))
  | walk_at "ks"))
namespace N25
open PySem PySem.Spec PyProof.Rows L2 Z M
theorem bg_pair {x y : PyData} {s : Str} : bg [.str s, x, y] s 3 = true := by simp [bg, isS]
theorem bg_two {x : PyData} {s : Str} : bg [.str s, x] s 2 = true := by simp [bg, isS]
theorem bg_no2 {ds : List PyData} {s : Str} (h : ¬ ∃ x, ds = [.str s, x]) : bg ds s 2 = false := by
  cases e : bg ds s 2 with
  | false => rfl
  | true => exact absurd (bg2 e) h
theorem bg_no3 {ds : List PyData} {s : Str} (h : ¬ ∃ x y, ds = [.str s, x, y]) : bg ds s 3 = false := by
  cases e : bg ds s 3 with
  | false => rfl
  | true => exact absurd (bg3 e) h
theorem isof_go : ∀ (c : DK), c.ok = true → kd c ≤ 30 → ∀ (N : Nat) (C : Cells) (d : PyData), 3 * kd c ≤ N → tidy d = true → m_is_of N [.d (encK c), .d d] C = some (.d (.bool (vis c d)), C)
  | .num, ho, hk, N, C, d, hN, hd => by
    obtain ⟨n, rfl⟩ : ∃ n, N = n + 1 := ⟨N - 1, by have := kd_pos .num; omega⟩
    simp only [kd] at hN
    refine RE.to (q_fun rfl ?_)
    simp only [encK]
    walk_at "qk"
    refine ⟨rfl, RE.eq (pwhole_eq d (by omega)) ?_⟩
    walk_at "qk"
    rw [List.take_length, vis_num]
    exact ⟨rfl, rfl⟩
  | .unit, ho, hk, N, C, d, hN, hd => by
    obtain ⟨n, rfl⟩ : ∃ n, N = n + 1 := ⟨N - 1, by have := kd_pos .unit; omega⟩
    simp only [kd] at hN
    refine RE.to (q_fun rfl ?_)
    simp only [encK]
    by_cases ht : ∃ ds, d = .tuple ds
    · obtain ⟨ds, rfl⟩ := ht
      walk_at "qk"
      rw [List.take_length, vis_unit]
      exact ⟨rfl, rfl⟩
    · walk_at "qk"
      rw [nt_tup ht]
      walk_at "qk"
      rw [List.take_length, vis_tup (by simp) (nt_tup ht)]
      exact ⟨rfl, rfl⟩
  | .bag a, ho, hk, N, C, d, hN, hd => by
    obtain ⟨n, rfl⟩ : ∃ n, N = n + 1 := ⟨N - 1, by have := kd_pos (.bag a); omega⟩
    simp only [kd] at hN hk
    have ha : a.plain = true := ho
    refine RE.to (q_fun rfl ?_)
    simp only [encK]
    by_cases ht : ∃ ds, d = .tuple ds
    · obtain ⟨ds, rfl⟩ := ht
      walk_at "qk"
      refine ⟨rfl, RE.eq (isbag_ok ha (by omega) (fun d h1 h2 => isof_go a (DK.plain_ok ha) (by omega) _ _ d h1 h2) ds (by omega) hd) ?_⟩
      walk_at "qk"
      rw [List.take_length]
      exact ⟨rfl, rfl⟩
    · walk_at "qk"
      rw [nt_tup ht]
      walk_at "qk"
      rw [List.take_length, vis_tup (by simp) (nt_tup ht)]
      exact ⟨rfl, rfl⟩
  | .pair a b, ho, hk, N, C, d, hN, hd => by
    obtain ⟨n, rfl⟩ : ∃ n, N = n + 1 := ⟨N - 1, by have := kd_pos (.pair a b); omega⟩
    simp only [kd] at hN hk
    simp only [DK.ok, Bool.and_eq_true] at ho
    refine RE.to (q_fun rfl ?_)
    simp only [encK]
    by_cases ht : ∃ ds, d = .tuple ds
    · obtain ⟨ds, rfl⟩ := ht
      walk_at "qk"
      refine ⟨rfl, RE.eq (begins_eq (by omega) (by omega)) ?_⟩
      walk_at "qk"
      by_cases h : ∃ x y, ds = [.str "pair", x, y]
      · obtain ⟨x, y, rfl⟩ := h
        have hx := tidy_mem (tidy_tup hd).2 (d := x) (by simp)
        have hy := tidy_mem (tidy_tup hd).2 (d := y) (by simp)
        rw [bg_pair]
        walk_at "qk"
        refine ⟨rfl, RE.eq (isof_go a ho.1 (by omega) _ _ x (by omega) hx) ?_⟩
        walk_at "qk"
        refine q_bool (fun h2 => ?_) (fun h2 => ?_)
        · walk_at "qk"
          refine ⟨rfl, RE.eq (isof_go b ho.2 (by omega) _ _ y (by omega) hy) ?_⟩
          walk_at "qk"
          rw [List.take_length, vis_pair, h2, Bool.true_and]
          exact ⟨rfl, rfl⟩
        · walk_at "qk"
          rw [List.take_length, vis_pair, h2, Bool.false_and]
          exact ⟨rfl, rfl⟩
      · rw [bg_no3 h]
        walk_at "qk"
        rw [List.take_length, vis_pair_no fun x y e => h ⟨x, y, PyData.tuple.inj e⟩]
        exact ⟨rfl, rfl⟩
    · walk_at "qk"
      rw [nt_tup ht]
      walk_at "qk"
      rw [List.take_length, vis_tup (by simp) (nt_tup ht)]
      exact ⟨rfl, rfl⟩
  | .either a b, ho, hk, N, C, d, hN, hd => by
    obtain ⟨n, rfl⟩ : ∃ n, N = n + 1 := ⟨N - 1, by have := kd_pos (.either a b); omega⟩
    simp only [kd] at hN hk
    simp only [DK.ok, Bool.and_eq_true] at ho
    refine RE.to (q_fun rfl ?_)
    simp only [encK]
    by_cases ht : ∃ ds, d = .tuple ds
    · obtain ⟨ds, rfl⟩ := ht
      walk_at "qk"
      refine ⟨rfl, RE.eq (begins_eq (by omega) (by omega)) ?_⟩
      walk_at "qk"
      by_cases h : ∃ x, ds = [.str "left", x]
      · obtain ⟨x, rfl⟩ := h
        have hx := tidy_mem (tidy_tup hd).2 (d := x) (by simp)
        rw [bg_two]
        walk_at "qk"
        refine ⟨rfl, RE.eq (isof_go a ho.1 (by omega) _ _ x (by omega) hx) ?_⟩
        walk_at "qk"
        rw [List.take_length, vis_left]
        exact ⟨rfl, rfl⟩
      · rw [bg_no2 h]
        walk_at "qk"
        refine ⟨rfl, RE.eq (begins_eq (by omega) (by omega)) ?_⟩
        walk_at "qk"
        by_cases h2 : ∃ x, ds = [.str "right", x]
        · obtain ⟨x, rfl⟩ := h2
          have hx := tidy_mem (tidy_tup hd).2 (d := x) (by simp)
          rw [bg_two]
          walk_at "qk"
          refine ⟨rfl, RE.eq (isof_go b ho.2 (by omega) _ _ x (by omega) hx) ?_⟩
          walk_at "qk"
          rw [List.take_length, vis_right]
          exact ⟨rfl, rfl⟩
        · rw [bg_no2 h2]
          walk_at "qk"
          rw [List.take_length, vis_either_no (fun x e => h ⟨x, PyData.tuple.inj e⟩) (fun x e => h2 ⟨x, PyData.tuple.inj e⟩)]
          exact ⟨rfl, rfl⟩
    · walk_at "qk"
      rw [nt_tup ht]
      walk_at "qk"
      rw [List.take_length, vis_tup (by simp) (nt_tup ht)]
      exact ⟨rfl, rfl⟩
theorem isof_ok (c : DK) (ho : c.ok = true) (hk : kd c ≤ 30) : IsOf m_is_of c := fun d h1 h2 => isof_go c ho hk _ _ d h1 h2
theorem check_ok (c : DK) (ho : c.ok = true) (hk : kd c ≤ 30) {N : Nat} {C : Cells} {d : PyData} (hv : vis c d = true) (hN : 3 * kd c + 1 ≤ N) (hd : tidy d = true) : m_check_value N [.d (encK c), .d d] C = some (.d .none, C) := by
  obtain ⟨n, rfl⟩ : ∃ n, N = n + 1 := ⟨N - 1, by omega⟩
  refine RE.to (q_fun rfl ?_)
  walk_at "qk"
  refine ⟨rfl, RE.eq (isof_ok c ho hk d (by omega) hd) ?_⟩
  rw [hv]
  walk_at "qk"
  exact ⟨rfl, List.take_length⟩
end N25
end
section
open M
local macro_rules | `(tactic| walk_at "q1") => `(tactic| (first
  | with_reducible refine q_seq ?_ | with_reducible refine q_sif ?_ | with_reducible refine q_asg ?_ | with_reducible refine q_ret ?_ | with_reducible refine q_next ?_ | with_reducible refine q_drop ?_ | with_reducible refine q_for ?_ | with_reducible refine q_par ?_ | with_reducible refine q_par3 ?_
  | ((with_reducible refine' q_var ?k1 ?_); (case k1 => rfl)) | with_reducible refine q_c ?_ | with_reducible refine q_op ?_ | with_reducible refine q_un ?_ | with_reducible refine q_cons ?_ | with_reducible refine q_nil ?_ | with_reducible refine q_cb ?_ | with_reducible refine q_ty ?_
  | with_reducible refine q_test ?_ | with_reducible refine q_if ?_ | with_reducible refine q_tup ?_ | with_reducible refine q_lst ?_ | with_reducible refine q_and ?_ | with_reducible refine q_or ?_ | with_reducible refine q_not ?_ | with_reducible refine q_andV ?_ | with_reducible refine q_orV ?_ | with_reducible refine q_notV ?_
  | with_reducible refine q_call ?_ | with_reducible refine q_callN ?_ | with_reducible refine q_sl ?_ | with_reducible refine q_onone ?_ | with_reducible refine q_osome ?_ | with_reducible refine q_gname ?_ | with_reducible refine q_gcons ?_ | with_reducible refine q_gnil ?_ | with_reducible refine q_gconsM ?_ | with_reducible refine q_gnilM ?_ | with_reducible refine q_gsub ?_ | ((with_reducible refine' q_gtup ?k1 ?_); (case k1 => rfl))
  | with_reducible refine q_leave ?_ | with_reducible refine q_yes ?_ | with_reducible refine q_it ?_ | with_reducible refine q_if0 ?_ | with_reducible refine q_iR1 ?_ | with_reducible refine q_lstC ?_ | with_reducible refine q_tru ?_ | with_reducible refine q_lc ?_
  | with_reducible refine RP.eq paddi ?_ | with_reducible refine RP.eq psubi ?_ | with_reducible refine RP.eq pinti ?_ | with_reducible refine RP.eq pintb ?_ | with_reducible refine RP.eq pabsi ?_ | with_reducible refine RP.eq pnegi ?_ | with_reducible refine RP.eq peqs ?_ | with_reducible refine RP.eq peqi ?_
  | with_reducible refine RP.eq pnes ?_ | with_reducible refine RP.eq pnei ?_ | with_reducible refine RP.eq pgti ?_ | with_reducible refine RP.eq plei ?_ | with_reducible refine RP.eq pgei ?_ | with_reducible refine RP.eq plti ?_ | with_reducible refine RP.eq plent ?_ | with_reducible refine RP.eq plenl ?_
  | with_reducible refine RP.eq psltt ?_ | with_reducible refine RP.eq psltl ?_
  | ((with_reducible refine' RP.eq (pmuli ?k1) ?_); (case k1 => first | (unfold L2.CMul; omega) | (unfold L2.CMul; decide))) | ((with_reducible refine' RP.eq (pmodi ?k1) ?_); (case k1 => first | omega | decide)) | ((with_reducible refine' RP.eq (pfdivi ?k1) ?_); (case k1 => unfold L2.CDiv; omega)) | ((with_reducible refine' RP.eq (pdivmodi ?k1) ?_); (case k1 => unfold L2.CDiv; omega)) | ((with_reducible refine' RP.eq (pdivmodWi ?k1 ?k2) ?_); (case k1 => omega); (case k2 => omega)) | ((with_reducible refine' RP.eq (ppowi ?k1) ?_); (case k1 => unfold L2.CPow; decide))
  | with_reducible refine q_asB ?_ | ((with_reducible refine' q_allD ?k1 ?_); (case k1 => rfl))
  | with_reducible refine Z.r_nt ?_ | with_reducible refine Z.r_nf ?_
  | with_reducible refine RP.eq isi_int_none ?_ | with_reducible refine RP.eq isi_int_bool ?_ | with_reducible refine RP.eq isi_int_int ?_ | with_reducible refine RP.eq isi_int_str ?_ | with_reducible refine RP.eq isi_int_tuple ?_ | with_reducible refine RP.eq isi_int_list ?_ | with_reducible refine RP.eq isi_bool_none ?_ | with_reducible refine RP.eq isi_bool_bool ?_ | with_reducible refine RP.eq isi_bool_int ?_ | with_reducible refine RP.eq isi_bool_str ?_ | with_reducible refine RP.eq isi_bool_tuple ?_ | with_reducible refine RP.eq isi_bool_list ?_ | with_reducible refine RP.eq isi_tuple_none ?_ | with_reducible refine RP.eq isi_tuple_bool ?_ | with_reducible refine RP.eq isi_tuple_int ?_ | with_reducible refine RP.eq isi_tuple_str ?_ | with_reducible refine RP.eq isi_tuple_tuple ?_ | with_reducible refine RP.eq isi_tuple_list ?_ | with_reducible refine RP.eq isi_str_none ?_ | with_reducible refine RP.eq isi_str_bool ?_ | with_reducible refine RP.eq isi_str_int ?_ | with_reducible refine RP.eq isi_str_str ?_ | with_reducible refine RP.eq isi_str_tuple ?_ | with_reducible refine RP.eq isi_str_list ?_ | with_reducible refine RP.eq isi_list_none ?_ | with_reducible refine RP.eq isi_list_bool ?_ | with_reducible refine RP.eq isi_list_int ?_ | with_reducible refine RP.eq isi_list_str ?_ | with_reducible refine RP.eq isi_list_tuple ?_ | with_reducible refine RP.eq isi_list_list ?_
  | with_reducible refine RP.eq isi_int ?_ | with_reducible refine RP.eq isi_bool ?_ | with_reducible refine RP.eq isi_tuple ?_ | with_reducible refine RP.eq isi_str ?_ | with_reducible refine RP.eq isi_list ?_
  | ((with_reducible refine' q_len ?k1 ?_); (case k1 => rfl)) | ((with_reducible refine' RP.eq (paddt ?k1) ?_); (case k1 => exact Nat.le_of_ble_eq_true rfl))
  | ((with_reducible refine' q_lcons ?k1 ?_); (case k1 => rfl)) | ((with_reducible refine' q_lnil ?k1 ?_); (case k1 => rfl)) | with_reducible refine q_tab ?_ | with_reducible refine q_isTab ?_ | with_reducible refine q_noTab ?_ | with_reducible refine q_str1 ?_ | with_reducible refine q_int1 ?_
  | with_reducible refine RP.eq ptuplel ?_
  | with_reducible refine RP.eq pix0 ?_ | with_reducible refine RP.eq pix1 ?_ | with_reducible refine RP.eq pix2 ?_))
local macro_rules | `(tactic| walk_at "qq") => `(tactic| repeat walk_at "q1")
local macro_rules | `(tactic| walk_at "cell") => `(tactic| first | assumption | (apply M.set_at; walk_at "cell"))
local macro_rules | `(tactic| walk_at "qc") => `(tactic| repeat (first
  | walk_at "q1"
  | ((refine' M.cIx ?k1 ?k2 ?_); (case k1 => walk_at "cell"); (case k2 => rfl))
  | ((refine' M.cSet ?k1 ?k2 ?_); (case k1 => walk_at "cell"); (case k2 => rfl))))
local macro_rules | `(tactic| walk_at "ks") => `(tactic| first | (refine M.q_dec (fun hs => absurd hs (by decide +kernel)) (fun _ => ?_)) | (refine M.q_dec (fun _ => ?_) (fun hs => absurd rfl hs)) | (refine M.q_ndec (fun _ => ?_) (fun hs => absurd hs (by decide +kernel))) | (refine M.q_ndec (fun hs => absurd rfl hs) (fun _ => ?_)))
local macro_rules | `(tactic| walk_at "qk") => `(tactic| repeat (first
  | walk_at "q1"
  | ((refine' M.cIx ?k1 ?k2 ?_); (case k1 => walk_at "cell"); (case k2 => rfl))
  | ((refine' M.cSet ?k1 ?k2 ?_); (case k1 => walk_at "cell"); (case k2 => rfl))
  | walk_at "ks"))
namespace N25
open PySem PySem.Spec PyProof.Rows L2 Z M
theorem rows_at2 {r : Rows} {i : Nat} {av : AV} (h : ((r.map encR).map AV.d)[i]? = some av) : ∃ p, r[i]? = some p ∧ av = .d (.tuple [encP p.1, .int p.2]) := by
  rw [List.getElem?_map, List.getElem?_map] at h
  cases e : r[i]? with
  | none => rw [e] at h; cases h
  | some p => rw [e] at h; cases h; exact ⟨p, rfl, rfl⟩
theorem peqP {C : Cells} {k : DK} {x y : PV} (k1 : hasP k x) (k2 : hasP k y) (d1 : pd x ≤ 60) (d2 : pd y ≤ 60) : pEq C (.d (encP x)) (.d (encP y)) = some (.bool (decide (x = y))) := by
  have e : eqD (encP x) (encP y) = some (decide (x = y)) := by
    unfold eqD
    rw [shaped_encP d1, shaped_encP d2, eqv_encP k1 k2]
    by_cases hs : scalD (encP x) (encP y) = true
    · rw [if_pos hs]
      cases x <;> cases y <;> first | cases hs; done | skip
      simp [encP, eqS]
    · rw [if_neg hs]
      rfl
  show (eqD (encP x) (encP y)).bind _ = _
  rw [e]
  rfl
theorem tru_cell {C : Cells} {j : Nat} {ds : List PyData} (h : C[j]? = some (some ds)) : truD C (.c j) = some (!ds.isEmpty) := by
  show C[j]?.join.map _ = _
  rw [h]
  rfl
theorem nz_len (r : Rows) : (nz r).length ≤ r.length := List.length_filter_le _ _
theorem gathered_ok {a : DK} {rows : Rows} (hk : kd a ≤ 30) (hr : ∀ p ∈ rows, hasP a p.1) (hl : rows.length ≤ 500) {N : Nat} {C : Cells} (hN : 1 ≤ N) : m_gathered N [.d (.tuple (rows.map encR))] C = some (.d (.tuple ((norm rows).map encR)), C) := by
  obtain ⟨n, rfl⟩ : ∃ n, N = n + 1 := ⟨N - 1, by omega⟩
  have bound : ∀ p ∈ rows, hasP a p.1 ∧ pd p.1 ≤ 30 := fun p hp => ⟨hr p hp, Nat.le_trans (pd_le (hr p hp)) hk⟩
  refine RE.to (q_fun rfl ?_)
  walk_at "qk"
  refine q_iL ?_
  walk_at "qk"
  refine RP.eq (sort_at bound) ?_
  refine ⟨_, rfl, ?_⟩
  have perm := sortRows_perm rows
  have srt := sortRows_srt rows
  generalize sortRows rows = ys at perm srt
  have hlen : ys.length = rows.length := perm.length_eq
  have hpy : ∀ p ∈ ys, hasP a p.1 ∧ pd p.1 ≤ 30 := fun p hm => bound p (perm.mem_iff.mp hm)
  refine q_loop (fun i env' E => (∃ e2 e3 e4, env' = [some (.d (.tuple (rows.map encR))), some (.c C.length), e2, e3, e4]) ∧ ∃ rs : Rows, E = C ++ [some (rs.map encR)] ∧ GI rs (ys.take i) ∧ rs.length ≤ i) ⟨⟨none, none, none, rfl⟩, [], rfl, GI.nil, Nat.le_refl _⟩ (fun _ _ _ _ => rfl) ?_ ?_
  · rintro i av env' E hi ⟨⟨e2, e3, e4, rfl⟩, rs, rfl, gi, hli⟩
    obtain ⟨p, hp1, rfl⟩ := rows_at2 hi
    have hil : i < ys.length := (List.getElem?_eq_some_iff.mp hp1).1
    have hpm := hpy p (List.mem_of_getElem? hp1)
    have kin : ∀ l ∈ rs, hasP a l.1 ∧ pd l.1 ≤ 30 := fun l hl => by
      obtain ⟨q, hq, e⟩ := gi.keys l hl
      rw [← e]
      exact hpy q (List.mem_of_mem_take hq)
    have above : ∀ q ∈ ys.take i, ltR p q = false := fun q hq => by
      obtain ⟨j, hj, e⟩ := List.mem_iff_getElem.mp hq
      rw [List.getElem_take] at e
      have hj2 : j < i := by
        rw [List.length_take] at hj
        omega
      have z := List.pairwise_iff_getElem.mp srt j i (by omega) hil hj2
      rw [e] at z
      have e2 : ys[i] = p := by
        rw [List.getElem?_eq_getElem hil] at hp1
        exact Option.some.inj hp1
      rwa [e2] at z
    walk_at "qk"
    refine RP.eq (tru_cell app_at) ?_
    rcases snoc_or rs with e | ⟨a0, l, e⟩
    · subst e
      refine q_if0 ?_
      walk_at "qk"
      refine q_app ?_
      walk_at "qk"
      refine ⟨C.length, rfl, ⟨_, app_at⟩, ?_⟩
      walk_at "qk"
      refine ⟨_, _, rfl, app_at, by simp, ⟨_, _, _, rfl⟩, [p], ?_, ?_, by simp⟩
      · rw [app_set]
        rfl
      · rw [take_next hp1]
        exact gi.more above fun a l z => by simp at z
    · subst e
      have kl := kin l (List.mem_append_right _ (List.mem_singleton.mpr rfl))
      have l0 : a0.length + 1 ≤ i := by
        rw [List.length_append] at hli
        exact hli
      have em : ((a0 ++ [l]).map encR) = a0.map encR ++ [.tuple [encP l.1, .int l.2]] := by rw [List.map_append]; rfl
      have ene : (!((a0 ++ [l]).map encR).isEmpty) = true := by rw [em]; simp
      rw [ene]
      refine q_it ?_
      walk_at "qk"
      refine cIx app_at (by rw [em]; exact at_last _ _) ?_
      walk_at "qk"
      refine RP.eq (peqP kl.1 hpm.1 (by omega) (by omega)) ?_
      walk_at "qk"
      refine q_dec (fun hc => ?_) (fun hc => ?_)
      · walk_at "qk"
        refine cIx app_at (by rw [em]; exact at_last _ _) ?_
        walk_at "qk"
        refine cSet app_at (by rw [em, List.length_append]; exact ixN_last _) ?_
        refine ⟨⟨_, _, _, rfl⟩, a0 ++ [(p.1, l.2 + p.2)], ?_, ?_, by rw [List.length_append]; show a0.length + 1 ≤ i + 1; omega⟩
        · rw [app_set, em, set_last, List.map_append]
          rfl
        · rw [take_next hp1]
          exact gi.same hc
      · walk_at "qk"
        refine q_app ?_
        walk_at "qk"
        refine ⟨C.length, rfl, ⟨_, app_at⟩, ?_⟩
        walk_at "qk"
        refine ⟨_, _, rfl, app_at, by rw [List.length_map, List.length_append]; show a0.length + 1 ≤ 1000; omega, ⟨_, _, _, rfl⟩, (a0 ++ [l]) ++ [p], ?_, ?_, by rw [List.length_append, List.length_append]; show a0.length + 1 + 1 ≤ i + 1; omega⟩
        · rw [app_set, List.map_append (l₁ := a0 ++ [l])]
          rfl
        · rw [take_next hp1]
          refine gi.more above fun a1 l1 z => ?_
          have z2 := (List.append_inj' z rfl).2
          rw [← (List.cons.inj z2).1]
          exact hc
  · rintro env' E ⟨⟨e2, e3, e4, rfl⟩, rs, rfl, gi, hli⟩
    rw [List.length_map, List.length_map, List.take_length] at gi
    rw [List.length_map, List.length_map] at hli
    rw [gi.norm perm]
    walk_at "qk"
    refine q_iC ?_
    walk_at "qk"
    refine ⟨C.length, rs.map encR, rfl, app_at, ?_⟩
    refine q_comp (fun k C' => C' = (C ++ [some (rs.map encR)]) ++ [some ((nz (rs.take k)).map encR)]) rfl ?_ ?_ ?_
    · rintro k C' rfl
      exact keepC_of (app_old app_at)
    · rintro k av C' hk rfl
      obtain ⟨q, hq, rfl⟩ := rows_at2 hk
      walk_at "qk"
      refine q_ndec (fun hc => ?_) (fun hc => ?_)
      · walk_at "qk"
        refine ⟨_, _, rfl, app_at, ?_, ?_⟩
        · rw [List.length_map]
          have z := nz_len (rs.take k)
          rw [List.length_take] at z
          omega
        · rw [app_set, nz_take hq, if_neg hc, List.map_append]
          rfl
      · walk_at "qk"
        rw [nz_take hq, if_pos hc]
    · rintro C' rfl
      rw [List.length_map, List.length_map, List.take_length]
      refine ⟨_, app_at, ?_⟩
      rw [take_app]
      walk_at "qk"
      rw [take_app]
      exact ⟨rfl, rfl⟩
end N25
end
section
open M
local macro_rules | `(tactic| walk_at "q1") => `(tactic| (first
  | with_reducible refine q_seq ?_ | with_reducible refine q_sif ?_ | with_reducible refine q_asg ?_ | with_reducible refine q_ret ?_ | with_reducible refine q_next ?_ | with_reducible refine q_drop ?_ | with_reducible refine q_for ?_ | with_reducible refine q_par ?_ | with_reducible refine q_par3 ?_
  | ((with_reducible refine' q_var ?k1 ?_); (case k1 => rfl)) | with_reducible refine q_c ?_ | with_reducible refine q_op ?_ | with_reducible refine q_un ?_ | with_reducible refine q_cons ?_ | with_reducible refine q_nil ?_ | with_reducible refine q_cb ?_ | with_reducible refine q_ty ?_
  | with_reducible refine q_test ?_ | with_reducible refine q_if ?_ | with_reducible refine q_tup ?_ | with_reducible refine q_lst ?_ | with_reducible refine q_and ?_ | with_reducible refine q_or ?_ | with_reducible refine q_not ?_ | with_reducible refine q_andV ?_ | with_reducible refine q_orV ?_ | with_reducible refine q_notV ?_
  | with_reducible refine q_call ?_ | with_reducible refine q_callN ?_ | with_reducible refine q_sl ?_ | with_reducible refine q_onone ?_ | with_reducible refine q_osome ?_ | with_reducible refine q_gname ?_ | with_reducible refine q_gcons ?_ | with_reducible refine q_gnil ?_ | with_reducible refine q_gconsM ?_ | with_reducible refine q_gnilM ?_ | with_reducible refine q_gsub ?_ | ((with_reducible refine' q_gtup ?k1 ?_); (case k1 => rfl))
  | with_reducible refine q_leave ?_ | with_reducible refine q_yes ?_ | with_reducible refine q_it ?_ | with_reducible refine q_if0 ?_ | with_reducible refine q_iR1 ?_ | with_reducible refine q_lstC ?_ | with_reducible refine q_tru ?_ | with_reducible refine q_lc ?_
  | with_reducible refine RP.eq paddi ?_ | with_reducible refine RP.eq psubi ?_ | with_reducible refine RP.eq pinti ?_ | with_reducible refine RP.eq pintb ?_ | with_reducible refine RP.eq pabsi ?_ | with_reducible refine RP.eq pnegi ?_ | with_reducible refine RP.eq peqs ?_ | with_reducible refine RP.eq peqi ?_
  | with_reducible refine RP.eq pnes ?_ | with_reducible refine RP.eq pnei ?_ | with_reducible refine RP.eq pgti ?_ | with_reducible refine RP.eq plei ?_ | with_reducible refine RP.eq pgei ?_ | with_reducible refine RP.eq plti ?_ | with_reducible refine RP.eq plent ?_ | with_reducible refine RP.eq plenl ?_
  | with_reducible refine RP.eq psltt ?_ | with_reducible refine RP.eq psltl ?_
  | ((with_reducible refine' RP.eq (pmuli ?k1) ?_); (case k1 => first | (unfold L2.CMul; omega) | (unfold L2.CMul; decide))) | ((with_reducible refine' RP.eq (pmodi ?k1) ?_); (case k1 => first | omega | decide)) | ((with_reducible refine' RP.eq (pfdivi ?k1) ?_); (case k1 => unfold L2.CDiv; omega)) | ((with_reducible refine' RP.eq (pdivmodi ?k1) ?_); (case k1 => unfold L2.CDiv; omega)) | ((with_reducible refine' RP.eq (pdivmodWi ?k1 ?k2) ?_); (case k1 => omega); (case k2 => omega)) | ((with_reducible refine' RP.eq (ppowi ?k1) ?_); (case k1 => unfold L2.CPow; decide))
  | with_reducible refine q_asB ?_ | ((with_reducible refine' q_allD ?k1 ?_); (case k1 => rfl))
  | with_reducible refine Z.r_nt ?_ | with_reducible refine Z.r_nf ?_
  | with_reducible refine RP.eq isi_int_none ?_ | with_reducible refine RP.eq isi_int_bool ?_ | with_reducible refine RP.eq isi_int_int ?_ | with_reducible refine RP.eq isi_int_str ?_ | with_reducible refine RP.eq isi_int_tuple ?_ | with_reducible refine RP.eq isi_int_list ?_ | with_reducible refine RP.eq isi_bool_none ?_ | with_reducible refine RP.eq isi_bool_bool ?_ | with_reducible refine RP.eq isi_bool_int ?_ | with_reducible refine RP.eq isi_bool_str ?_ | with_reducible refine RP.eq isi_bool_tuple ?_ | with_reducible refine RP.eq isi_bool_list ?_ | with_reducible refine RP.eq isi_tuple_none ?_ | with_reducible refine RP.eq isi_tuple_bool ?_ | with_reducible refine RP.eq isi_tuple_int ?_ | with_reducible refine RP.eq isi_tuple_str ?_ | with_reducible refine RP.eq isi_tuple_tuple ?_ | with_reducible refine RP.eq isi_tuple_list ?_ | with_reducible refine RP.eq isi_str_none ?_ | with_reducible refine RP.eq isi_str_bool ?_ | with_reducible refine RP.eq isi_str_int ?_ | with_reducible refine RP.eq isi_str_str ?_ | with_reducible refine RP.eq isi_str_tuple ?_ | with_reducible refine RP.eq isi_str_list ?_ | with_reducible refine RP.eq isi_list_none ?_ | with_reducible refine RP.eq isi_list_bool ?_ | with_reducible refine RP.eq isi_list_int ?_ | with_reducible refine RP.eq isi_list_str ?_ | with_reducible refine RP.eq isi_list_tuple ?_ | with_reducible refine RP.eq isi_list_list ?_
  | with_reducible refine RP.eq isi_int ?_ | with_reducible refine RP.eq isi_bool ?_ | with_reducible refine RP.eq isi_tuple ?_ | with_reducible refine RP.eq isi_str ?_ | with_reducible refine RP.eq isi_list ?_
  | ((with_reducible refine' q_len ?k1 ?_); (case k1 => rfl)) | ((with_reducible refine' RP.eq (paddt ?k1) ?_); (case k1 => exact Nat.le_of_ble_eq_true rfl))
  | ((with_reducible refine' q_lcons ?k1 ?_); (case k1 => rfl)) | ((with_reducible refine' q_lnil ?k1 ?_); (case k1 => rfl)) | with_reducible refine q_tab ?_ | with_reducible refine q_isTab ?_ | with_reducible refine q_noTab ?_ | with_reducible refine q_str1 ?_ | with_reducible refine q_int1 ?_
  | with_reducible refine RP.eq ptuplel ?_
  | with_reducible refine RP.eq pix0 ?_ | with_reducible refine RP.eq pix1 ?_ | with_reducible refine RP.eq pix2 ?_))
local macro_rules | `(tactic| walk_at "qq") => `(tactic| repeat walk_at "q1")
local macro_rules | `(tactic| walk_at "cell") => `(tactic| first | assumption | (apply M.set_at; walk_at "cell"))
local macro_rules | `(tactic| walk_at "qc") => `(tactic| repeat (first
  | walk_at "q1"
  | ((refine' M.cIx ?k1 ?k2 ?_); (case k1 => walk_at "cell"); (case k2 => rfl))
  | ((refine' M.cSet ?k1 ?k2 ?_); (case k1 => walk_at "cell"); (case k2 => rfl))))
local macro_rules | `(tactic| walk_at "ks") => `(tactic| first | (refine M.q_dec (fun hs => absurd hs (by decide +kernel)) (fun _ => ?_)) | (refine M.q_dec (fun _ => ?_) (fun hs => absurd rfl hs)) | (refine M.q_ndec (fun _ => ?_) (fun hs => absurd hs (by decide +kernel))) | (refine M.q_ndec (fun hs => absurd rfl hs) (fun _ => ?_)))
local macro_rules | `(tactic| walk_at "qk") => `(tactic| repeat (first
  | walk_at "q1"
  | ((refine' M.cIx ?k1 ?k2 ?_); (case k1 => walk_at "cell"); (case k2 => rfl))
  | ((refine' M.cSet ?k1 ?k2 ?_); (case k1 => walk_at "cell"); (case k2 => rfl))
  | walk_at "ks"))
namespace N25
open PySem PySem.Spec PyProof.Rows L2 Z M
theorem map_next {α β : Type} {r : List α} {k : Nat} {q : α} (f : α → β) (h : r[k]? = some q) : (r.take (k + 1)).map f = (r.take k).map f ++ [f q] := by rw [take_next h, List.map_append]; rfl
theorem bagtimes_ok {t : Int} {r : Rows} (ht : t.natAbs ≤ 10 ^ 9) (hl : r.length ≤ 500) {N : Nat} {C : Cells} (hN : 1 ≤ N) : m__bag_times N [.d (.int t), .d (.tuple (r.map encR))] C = some (.d (.tuple ((scale t r).map encR)), C) := by
  obtain ⟨n, rfl⟩ : ∃ n, N = n + 1 := ⟨N - 1, by omega⟩
  refine RE.to (q_fun rfl ?_)
  walk_at "qk"
  refine q_dec (fun h => ?_) (fun h => ?_)
  · walk_at "qk"
    rw [List.take_length]
    unfold scale
    rw [if_pos h]
    exact ⟨rfl, rfl⟩
  · walk_at "qk"
    refine q_iT ?_
    walk_at "qk"
    refine ⟨_, rfl, ?_⟩
    refine q_comp (fun k E => E = C ++ [some ((r.take k).map fun p => encR (p.1, t * p.2))]) rfl (fun _ _ _ => rfl) ?_ ?_
    · rintro k av E hi rfl
      obtain ⟨q, hq, rfl⟩ := rows_at2 hi
      walk_at "qk"
      refine ⟨_, _, rfl, app_at, by rw [List.length_map, List.length_take]; omega, ?_⟩
      rw [app_set, map_next _ hq]
      rfl
    · rintro E rfl
      rw [List.length_map, List.length_map, List.take_length]
      refine ⟨_, app_at, ?_⟩
      rw [take_app]
      walk_at "qk"
      rw [List.take_length]
      unfold scale
      rw [if_neg h, List.map_map]
      exact ⟨rfl, rfl⟩
theorem plusin_ok : ∀ {c : DK} {x y : DV} {N : Nat} {C : Cells} {B : Nat}, kd c + 1 ≤ N → kd c ≤ 30 → Grp c x → Grp c y → fits 100 B x → fits 100 B y → m_plus_in N [.d (encK c), .d (encD x), .d (encD y)] C = some (.d (encD (plus x y)), C) := by
  intro c x y N C B hN hk gx gy fx fy
  induction gx generalizing y N with
  | num i =>
    obtain ⟨n, rfl⟩ : ∃ n, N = n + 1 := ⟨N - 1, by omega⟩
    cases gy with
    | num j =>
    refine RE.to (q_fun rfl ?_)
    simp only [encK, Z.encD]
    walk_at "qk"
    rw [List.take_length]
    exact ⟨rfl, rfl⟩
  | bag ha hb hr =>
    rename_i a r
    obtain ⟨n, rfl⟩ : ∃ n, N = n + 1 := ⟨N - 1, by omega⟩
    cases gy with
    | bag ha2 hb2 hr2 =>
    rename_i s
    simp only [kd] at hN hk
    refine RE.to (q_fun rfl ?_)
    simp only [encK, Z.encD]
    walk_at "qk"
    have l1 : r.length ≤ 100 := fx.1
    have l2 : s.length ≤ 100 := fy.1
    refine RP.eq (paddt (by rw [List.length_map, List.length_map]; omega)) ?_
    rw [← List.map_append]
    walk_at "qk"
    refine ⟨rfl, RE.eq (gathered_ok (a := a) (by omega) (fun p hp => ?_) (by rw [List.length_append]; omega) (by omega)) ?_⟩
    · rcases List.mem_append.mp hp with hp | hp
      · exact hb p hp
      · exact hb2 p hp
    walk_at "qk"
    rw [List.take_length]
    exact ⟨rfl, rfl⟩
  | pair ga gb iha ihb =>
    obtain ⟨n, rfl⟩ : ∃ n, N = n + 1 := ⟨N - 1, by omega⟩
    cases gy with
    | pair ga2 gb2 =>
    simp only [kd] at hN hk
    refine RE.to (q_fun rfl ?_)
    simp only [encK, Z.encD]
    walk_at "qk"
    refine ⟨rfl, RE.eq (iha (by omega) (by omega) ga2 fx.1 fy.1) ?_⟩
    walk_at "qk"
    refine ⟨rfl, RE.eq (ihb (by omega) (by omega) gb2 fx.2 fy.2) ?_⟩
    walk_at "qk"
    rw [List.take_length]
    exact ⟨rfl, rfl⟩
theorem timesin_ok : ∀ {c : DK} {x : DV} {N : Nat} {C : Cells} {B : Nat} {t : Int}, kd c + 1 ≤ N → t.natAbs ≤ 10 ^ 9 → Grp c x → fits 100 B x → m_times_in N [.d (encK c), .d (.int t), .d (encD x)] C = some (.d (encD (times t x)), C) := by
  intro c x N C B t hN ht gx fx
  induction gx generalizing N with
  | num i =>
    obtain ⟨n, rfl⟩ : ∃ n, N = n + 1 := ⟨N - 1, by omega⟩
    refine RE.to (q_fun rfl ?_)
    simp only [encK, Z.encD]
    walk_at "qk"
    rw [List.take_length]
    exact ⟨rfl, rfl⟩
  | bag ha hb hr =>
    rename_i a r
    obtain ⟨n, rfl⟩ : ∃ n, N = n + 1 := ⟨N - 1, by omega⟩
    simp only [kd] at hN
    refine RE.to (q_fun rfl ?_)
    simp only [encK, Z.encD]
    walk_at "qk"
    have l1 : r.length ≤ 100 := fx.1
    refine ⟨rfl, RE.eq (bagtimes_ok ht (by omega) (by omega)) ?_⟩
    walk_at "qk"
    rw [List.take_length]
    exact ⟨rfl, rfl⟩
  | pair ga gb iha ihb =>
    obtain ⟨n, rfl⟩ : ∃ n, N = n + 1 := ⟨N - 1, by omega⟩
    simp only [kd] at hN
    refine RE.to (q_fun rfl ?_)
    simp only [encK, Z.encD]
    walk_at "qk"
    refine ⟨rfl, RE.eq (iha (by omega) fx.1) ?_⟩
    walk_at "qk"
    refine ⟨rfl, RE.eq (ihb (by omega) fx.2) ?_⟩
    walk_at "qk"
    rw [List.take_length]
    exact ⟨rfl, rfl⟩
end N25
end
section
open M
local macro_rules | `(tactic| walk_at "q1") => `(tactic| (first
  | with_reducible refine q_seq ?_ | with_reducible refine q_sif ?_ | with_reducible refine q_asg ?_ | with_reducible refine q_ret ?_ | with_reducible refine q_next ?_ | with_reducible refine q_drop ?_ | with_reducible refine q_for ?_ | with_reducible refine q_par ?_ | with_reducible refine q_par3 ?_
  | ((with_reducible refine' q_var ?k1 ?_); (case k1 => rfl)) | with_reducible refine q_c ?_ | with_reducible refine q_op ?_ | with_reducible refine q_un ?_ | with_reducible refine q_cons ?_ | with_reducible refine q_nil ?_ | with_reducible refine q_cb ?_ | with_reducible refine q_ty ?_
  | with_reducible refine q_test ?_ | with_reducible refine q_if ?_ | with_reducible refine q_tup ?_ | with_reducible refine q_lst ?_ | with_reducible refine q_and ?_ | with_reducible refine q_or ?_ | with_reducible refine q_not ?_ | with_reducible refine q_andV ?_ | with_reducible refine q_orV ?_ | with_reducible refine q_notV ?_
  | with_reducible refine q_call ?_ | with_reducible refine q_callN ?_ | with_reducible refine q_sl ?_ | with_reducible refine q_onone ?_ | with_reducible refine q_osome ?_ | with_reducible refine q_gname ?_ | with_reducible refine q_gcons ?_ | with_reducible refine q_gnil ?_ | with_reducible refine q_gconsM ?_ | with_reducible refine q_gnilM ?_ | with_reducible refine q_gsub ?_ | ((with_reducible refine' q_gtup ?k1 ?_); (case k1 => rfl))
  | with_reducible refine q_leave ?_ | with_reducible refine q_yes ?_ | with_reducible refine q_it ?_ | with_reducible refine q_if0 ?_ | with_reducible refine q_iR1 ?_ | with_reducible refine q_lstC ?_ | with_reducible refine q_tru ?_ | with_reducible refine q_lc ?_
  | with_reducible refine RP.eq paddi ?_ | with_reducible refine RP.eq psubi ?_ | with_reducible refine RP.eq pinti ?_ | with_reducible refine RP.eq pintb ?_ | with_reducible refine RP.eq pabsi ?_ | with_reducible refine RP.eq pnegi ?_ | with_reducible refine RP.eq peqs ?_ | with_reducible refine RP.eq peqi ?_
  | with_reducible refine RP.eq pnes ?_ | with_reducible refine RP.eq pnei ?_ | with_reducible refine RP.eq pgti ?_ | with_reducible refine RP.eq plei ?_ | with_reducible refine RP.eq pgei ?_ | with_reducible refine RP.eq plti ?_ | with_reducible refine RP.eq plent ?_ | with_reducible refine RP.eq plenl ?_
  | with_reducible refine RP.eq psltt ?_ | with_reducible refine RP.eq psltl ?_
  | ((with_reducible refine' RP.eq (pmuli ?k1) ?_); (case k1 => first | (unfold L2.CMul; omega) | (unfold L2.CMul; decide))) | ((with_reducible refine' RP.eq (pmodi ?k1) ?_); (case k1 => first | omega | decide)) | ((with_reducible refine' RP.eq (pfdivi ?k1) ?_); (case k1 => unfold L2.CDiv; omega)) | ((with_reducible refine' RP.eq (pdivmodi ?k1) ?_); (case k1 => unfold L2.CDiv; omega)) | ((with_reducible refine' RP.eq (pdivmodWi ?k1 ?k2) ?_); (case k1 => omega); (case k2 => omega)) | ((with_reducible refine' RP.eq (ppowi ?k1) ?_); (case k1 => unfold L2.CPow; decide))
  | with_reducible refine q_asB ?_ | ((with_reducible refine' q_allD ?k1 ?_); (case k1 => rfl))
  | with_reducible refine Z.r_nt ?_ | with_reducible refine Z.r_nf ?_
  | with_reducible refine RP.eq isi_int_none ?_ | with_reducible refine RP.eq isi_int_bool ?_ | with_reducible refine RP.eq isi_int_int ?_ | with_reducible refine RP.eq isi_int_str ?_ | with_reducible refine RP.eq isi_int_tuple ?_ | with_reducible refine RP.eq isi_int_list ?_ | with_reducible refine RP.eq isi_bool_none ?_ | with_reducible refine RP.eq isi_bool_bool ?_ | with_reducible refine RP.eq isi_bool_int ?_ | with_reducible refine RP.eq isi_bool_str ?_ | with_reducible refine RP.eq isi_bool_tuple ?_ | with_reducible refine RP.eq isi_bool_list ?_ | with_reducible refine RP.eq isi_tuple_none ?_ | with_reducible refine RP.eq isi_tuple_bool ?_ | with_reducible refine RP.eq isi_tuple_int ?_ | with_reducible refine RP.eq isi_tuple_str ?_ | with_reducible refine RP.eq isi_tuple_tuple ?_ | with_reducible refine RP.eq isi_tuple_list ?_ | with_reducible refine RP.eq isi_str_none ?_ | with_reducible refine RP.eq isi_str_bool ?_ | with_reducible refine RP.eq isi_str_int ?_ | with_reducible refine RP.eq isi_str_str ?_ | with_reducible refine RP.eq isi_str_tuple ?_ | with_reducible refine RP.eq isi_str_list ?_ | with_reducible refine RP.eq isi_list_none ?_ | with_reducible refine RP.eq isi_list_bool ?_ | with_reducible refine RP.eq isi_list_int ?_ | with_reducible refine RP.eq isi_list_str ?_ | with_reducible refine RP.eq isi_list_tuple ?_ | with_reducible refine RP.eq isi_list_list ?_
  | with_reducible refine RP.eq isi_int ?_ | with_reducible refine RP.eq isi_bool ?_ | with_reducible refine RP.eq isi_tuple ?_ | with_reducible refine RP.eq isi_str ?_ | with_reducible refine RP.eq isi_list ?_
  | ((with_reducible refine' q_len ?k1 ?_); (case k1 => rfl)) | ((with_reducible refine' RP.eq (paddt ?k1) ?_); (case k1 => exact Nat.le_of_ble_eq_true rfl))
  | ((with_reducible refine' q_lcons ?k1 ?_); (case k1 => rfl)) | ((with_reducible refine' q_lnil ?k1 ?_); (case k1 => rfl)) | with_reducible refine q_tab ?_ | with_reducible refine q_isTab ?_ | with_reducible refine q_noTab ?_ | with_reducible refine q_str1 ?_ | with_reducible refine q_int1 ?_
  | with_reducible refine RP.eq ptuplel ?_
  | with_reducible refine RP.eq pix0 ?_ | with_reducible refine RP.eq pix1 ?_ | with_reducible refine RP.eq pix2 ?_))
local macro_rules | `(tactic| walk_at "qq") => `(tactic| repeat walk_at "q1")
local macro_rules | `(tactic| walk_at "cell") => `(tactic| first | assumption | (apply M.set_at; walk_at "cell"))
local macro_rules | `(tactic| walk_at "qc") => `(tactic| repeat (first
  | walk_at "q1"
  | ((refine' M.cIx ?k1 ?k2 ?_); (case k1 => walk_at "cell"); (case k2 => rfl))
  | ((refine' M.cSet ?k1 ?k2 ?_); (case k1 => walk_at "cell"); (case k2 => rfl))))
local macro_rules | `(tactic| walk_at "ks") => `(tactic| first | (refine M.q_dec (fun hs => absurd hs (by decide +kernel)) (fun _ => ?_)) | (refine M.q_dec (fun _ => ?_) (fun hs => absurd rfl hs)) | (refine M.q_ndec (fun _ => ?_) (fun hs => absurd hs (by decide +kernel))) | (refine M.q_ndec (fun hs => absurd rfl hs) (fun _ => ?_)))
local macro_rules | `(tactic| walk_at "qk") => `(tactic| repeat (first
  | walk_at "q1"
  | ((refine' M.cIx ?k1 ?k2 ?_); (case k1 => walk_at "cell"); (case k2 => rfl))
  | ((refine' M.cSet ?k1 ?k2 ?_); (case k1 => walk_at "cell"); (case k2 => rfl))
  | walk_at "ks"))
namespace N25
open PySem PySem.Spec PyProof.Rows L2 Z M
theorem tidy_P : ∀ x : PV, tidy (encP x) = true
  | .unit => rfl
  | .num _ => rfl
  | .pair a b => by
    show (decide (3 ≤ 100) && (tidy (.str "pair") && (tidy (encP a) && (tidy (encP b) && true)))) = true
    rw [tidy_P a, tidy_P b, show tidy (.str "pair") = true from rfl]
    rfl
  | .left a => by
    show (decide (2 ≤ 100) && (tidy (.str "left") && (tidy (encP a) && true))) = true
    rw [tidy_P a, show tidy (.str "left") = true from rfl]
    rfl
  | .right a => by
    show (decide (2 ≤ 100) && (tidy (.str "right") && (tidy (encP a) && true))) = true
    rw [tidy_P a, show tidy (.str "right") = true from rfl]
    rfl
theorem tidy_R (p : Z.Row) : tidy (encR p) = true := by
  show (decide (2 ≤ 100) && (tidy (encP p.1) && (true && true))) = true
  rw [tidy_P]
  rfl
theorem tidy_Rs : ∀ r : Rows, tidyAll (r.map encR) = true
  | [] => rfl
  | p :: r => by
    show (tidy (encR p) && tidyAll (r.map encR)) = true
    rw [tidy_R, tidy_Rs r]
    rfl
theorem tidy_D {R B : Nat} (hR : R ≤ 100) : ∀ {x : DV}, fits R B x → tidy (encD x) = true
  | .unit, _ => rfl
  | .num _, _ => rfl
  | .pair a b, ⟨h1, h2⟩ => by
    show (decide (3 ≤ 100) && (tidy (.str "pair") && (tidy (encD a) && (tidy (encD b) && true)))) = true
    rw [tidy_D hR h1, tidy_D hR h2, show tidy (.str "pair") = true from rfl]
    rfl
  | .left a, h => by
    show (decide (2 ≤ 100) && (tidy (.str "left") && (tidy (encD a) && true))) = true
    rw [tidy_D hR (x := a) h, show tidy (.str "left") = true from rfl]
    rfl
  | .right a, h => by
    show (decide (2 ≤ 100) && (tidy (.str "right") && (tidy (encD a) && true))) = true
    rw [tidy_D hR (x := a) h, show tidy (.str "right") = true from rfl]
    rfl
  | .bag r, ⟨h, _⟩ => by
    show (decide ((r.map encR).length ≤ 100) && tidyAll (r.map encR)) = true
    rw [tidy_Rs, List.length_map, decide_eq_true (by omega)]
    rfl
theorem checkD_ok {c : DK} {x : DV} {R B : Nat} (ho : c.ok = true) (hk : kd c ≤ 9) (hx : has c x) (hR : R ≤ 100) (fx : fits R B x) {N : Nat} {C : Cells} (hN : 40 ≤ N) : m_check_value N [.d (encK c), .d (encD x)] C = some (.d .none, C) :=
  check_ok c ho (by omega) (vis_of hx) (by omega) (tidy_D hR fx)
end N25
end
section
open M
local macro_rules | `(tactic| walk_at "q1") => `(tactic| (first
  | with_reducible refine q_seq ?_ | with_reducible refine q_sif ?_ | with_reducible refine q_asg ?_ | with_reducible refine q_ret ?_ | with_reducible refine q_next ?_ | with_reducible refine q_drop ?_ | with_reducible refine q_for ?_ | with_reducible refine q_par ?_ | with_reducible refine q_par3 ?_
  | ((with_reducible refine' q_var ?k1 ?_); (case k1 => rfl)) | with_reducible refine q_c ?_ | with_reducible refine q_op ?_ | with_reducible refine q_un ?_ | with_reducible refine q_cons ?_ | with_reducible refine q_nil ?_ | with_reducible refine q_cb ?_ | with_reducible refine q_ty ?_
  | with_reducible refine q_test ?_ | with_reducible refine q_if ?_ | with_reducible refine q_tup ?_ | with_reducible refine q_lst ?_ | with_reducible refine q_and ?_ | with_reducible refine q_or ?_ | with_reducible refine q_not ?_ | with_reducible refine q_andV ?_ | with_reducible refine q_orV ?_ | with_reducible refine q_notV ?_
  | with_reducible refine q_call ?_ | with_reducible refine q_callN ?_ | with_reducible refine q_sl ?_ | with_reducible refine q_onone ?_ | with_reducible refine q_osome ?_ | with_reducible refine q_gname ?_ | with_reducible refine q_gcons ?_ | with_reducible refine q_gnil ?_ | with_reducible refine q_gconsM ?_ | with_reducible refine q_gnilM ?_ | with_reducible refine q_gsub ?_ | ((with_reducible refine' q_gtup ?k1 ?_); (case k1 => rfl))
  | with_reducible refine q_leave ?_ | with_reducible refine q_yes ?_ | with_reducible refine q_it ?_ | with_reducible refine q_if0 ?_ | with_reducible refine q_iR1 ?_ | with_reducible refine q_lstC ?_ | with_reducible refine q_tru ?_ | with_reducible refine q_lc ?_
  | with_reducible refine RP.eq paddi ?_ | with_reducible refine RP.eq psubi ?_ | with_reducible refine RP.eq pinti ?_ | with_reducible refine RP.eq pintb ?_ | with_reducible refine RP.eq pabsi ?_ | with_reducible refine RP.eq pnegi ?_ | with_reducible refine RP.eq peqs ?_ | with_reducible refine RP.eq peqi ?_
  | with_reducible refine RP.eq pnes ?_ | with_reducible refine RP.eq pnei ?_ | with_reducible refine RP.eq pgti ?_ | with_reducible refine RP.eq plei ?_ | with_reducible refine RP.eq pgei ?_ | with_reducible refine RP.eq plti ?_ | with_reducible refine RP.eq plent ?_ | with_reducible refine RP.eq plenl ?_
  | with_reducible refine RP.eq psltt ?_ | with_reducible refine RP.eq psltl ?_
  | ((with_reducible refine' RP.eq (pmuli ?k1) ?_); (case k1 => first | (unfold L2.CMul; omega) | (unfold L2.CMul; decide))) | ((with_reducible refine' RP.eq (pmodi ?k1) ?_); (case k1 => first | omega | decide)) | ((with_reducible refine' RP.eq (pfdivi ?k1) ?_); (case k1 => unfold L2.CDiv; omega)) | ((with_reducible refine' RP.eq (pdivmodi ?k1) ?_); (case k1 => unfold L2.CDiv; omega)) | ((with_reducible refine' RP.eq (pdivmodWi ?k1 ?k2) ?_); (case k1 => omega); (case k2 => omega)) | ((with_reducible refine' RP.eq (ppowi ?k1) ?_); (case k1 => unfold L2.CPow; decide))
  | with_reducible refine q_asB ?_ | ((with_reducible refine' q_allD ?k1 ?_); (case k1 => rfl))
  | with_reducible refine Z.r_nt ?_ | with_reducible refine Z.r_nf ?_
  | with_reducible refine RP.eq isi_int_none ?_ | with_reducible refine RP.eq isi_int_bool ?_ | with_reducible refine RP.eq isi_int_int ?_ | with_reducible refine RP.eq isi_int_str ?_ | with_reducible refine RP.eq isi_int_tuple ?_ | with_reducible refine RP.eq isi_int_list ?_ | with_reducible refine RP.eq isi_bool_none ?_ | with_reducible refine RP.eq isi_bool_bool ?_ | with_reducible refine RP.eq isi_bool_int ?_ | with_reducible refine RP.eq isi_bool_str ?_ | with_reducible refine RP.eq isi_bool_tuple ?_ | with_reducible refine RP.eq isi_bool_list ?_ | with_reducible refine RP.eq isi_tuple_none ?_ | with_reducible refine RP.eq isi_tuple_bool ?_ | with_reducible refine RP.eq isi_tuple_int ?_ | with_reducible refine RP.eq isi_tuple_str ?_ | with_reducible refine RP.eq isi_tuple_tuple ?_ | with_reducible refine RP.eq isi_tuple_list ?_ | with_reducible refine RP.eq isi_str_none ?_ | with_reducible refine RP.eq isi_str_bool ?_ | with_reducible refine RP.eq isi_str_int ?_ | with_reducible refine RP.eq isi_str_str ?_ | with_reducible refine RP.eq isi_str_tuple ?_ | with_reducible refine RP.eq isi_str_list ?_ | with_reducible refine RP.eq isi_list_none ?_ | with_reducible refine RP.eq isi_list_bool ?_ | with_reducible refine RP.eq isi_list_int ?_ | with_reducible refine RP.eq isi_list_str ?_ | with_reducible refine RP.eq isi_list_tuple ?_ | with_reducible refine RP.eq isi_list_list ?_
  | with_reducible refine RP.eq isi_int ?_ | with_reducible refine RP.eq isi_bool ?_ | with_reducible refine RP.eq isi_tuple ?_ | with_reducible refine RP.eq isi_str ?_ | with_reducible refine RP.eq isi_list ?_
  | ((with_reducible refine' q_len ?k1 ?_); (case k1 => rfl)) | ((with_reducible refine' RP.eq (paddt ?k1) ?_); (case k1 => exact Nat.le_of_ble_eq_true rfl))
  | ((with_reducible refine' q_lcons ?k1 ?_); (case k1 => rfl)) | ((with_reducible refine' q_lnil ?k1 ?_); (case k1 => rfl)) | with_reducible refine q_tab ?_ | with_reducible refine q_isTab ?_ | with_reducible refine q_noTab ?_ | with_reducible refine q_str1 ?_ | with_reducible refine q_int1 ?_
  | with_reducible refine RP.eq ptuplel ?_
  | with_reducible refine RP.eq pix0 ?_ | with_reducible refine RP.eq pix1 ?_ | with_reducible refine RP.eq pix2 ?_))
local macro_rules | `(tactic| walk_at "qq") => `(tactic| repeat walk_at "q1")
local macro_rules | `(tactic| walk_at "cell") => `(tactic| first | assumption | (apply M.set_at; walk_at "cell"))
local macro_rules | `(tactic| walk_at "qc") => `(tactic| repeat (first
  | walk_at "q1"
  | ((refine' M.cIx ?k1 ?k2 ?_); (case k1 => walk_at "cell"); (case k2 => rfl))
  | ((refine' M.cSet ?k1 ?k2 ?_); (case k1 => walk_at "cell"); (case k2 => rfl))))
local macro_rules | `(tactic| walk_at "ks") => `(tactic| first | (refine M.q_dec (fun hs => absurd hs (by decide +kernel)) (fun _ => ?_)) | (refine M.q_dec (fun _ => ?_) (fun hs => absurd rfl hs)) | (refine M.q_ndec (fun _ => ?_) (fun hs => absurd hs (by decide +kernel))) | (refine M.q_ndec (fun hs => absurd rfl hs) (fun _ => ?_)))
local macro_rules | `(tactic| walk_at "qk") => `(tactic| repeat (first
  | walk_at "q1"
  | ((refine' M.cIx ?k1 ?k2 ?_); (case k1 => walk_at "cell"); (case k2 => rfl))
  | ((refine' M.cSet ?k1 ?k2 ?_); (case k1 => walk_at "cell"); (case k2 => rfl))
  | walk_at "ks"))
namespace N25
open PySem PySem.Spec PyProof.Rows L2 Z M
theorem eqv_ts {ds : List PyData} {s : Str} : PyData.eqv (.tuple ds) (.str s) = false := by simp [PyData.eqv]
theorem peq_ts {C : Cells} {ds : List PyData} {s : Str} (h2 : SeqAt.shaped (.str s) = true) (h : SeqAt.shaped (.tuple ds) = true) : pEq C (.d (.tuple ds)) (.d (.str s)) = some (.bool false) := by
  have e : eqD (.tuple ds) (.str s) = some false := by
    unfold eqD
    have h3 : scalD (.tuple ds) (.str s) = false := rfl
    simp [h, h2, h3, eqv_ts]
  show (eqD (.tuple ds) (.str s)).bind _ = _
  rw [e]
  rfl
theorem pne_nil {C : Cells} {ds : List PyData} (h : SeqAt.shaped (.tuple ds) = true) : pNe C (.d (.tuple ds)) (.d (.tuple [])) = some (.bool (!ds.isEmpty)) := by
  have e : eqD (.tuple ds) (.tuple []) = some ds.isEmpty := by
    unfold eqD
    have h2 : SeqAt.shaped (.tuple []) = true := by decide +kernel
    have h3 : scalD (.tuple ds) (.tuple []) = false := rfl
    have e : PyData.eqv (.tuple ds) (.tuple []) = ds.isEmpty := by cases ds <;> simp [PyData.eqv, PyData.eqvAll]
    simp [h, h2, h3, e]
  show (eqD (.tuple ds) (.tuple [])).bind _ = _
  rw [e]
  rfl
theorem lay_Rs : ∀ r : Rows, PyData.canLayAll0 (r.map encR) = true
  | [] => rfl
  | p :: r => by
    show ((encR p).canLay0 && PyData.canLayAll0 (r.map encR)) = true
    rw [lay_Rs r]
    show (((encP p.1).canLay0 && (true && true)) && true) = true
    rw [lay_encP]
    rfl
theorem deep_Rs {a : DK} : ∀ {r : Rows}, (∀ p ∈ r, hasP a p.1) → PyData.depthAll (r.map encR) ≤ kd a + 1
  | [], _ => Nat.zero_le _
  | p :: r, h => by
    have ih := deep_Rs (r := r) fun q hq => h q (List.mem_cons_of_mem _ hq)
    have e := pd_le (h p List.mem_cons_self)
    have e2 : (encR p).depth = max (pd p.1) 0 + 1 := by
      show (PyData.tuple [encP p.1, .int p.2]).depth = _
      rw [PyData.depth, PyData.depthAll, PyData.depthAll, PyData.depthAll, pd_eq, PyData.depth]
      omega
    rw [List.map_cons, PyData.depthAll, e2]
    omega
theorem shaped_Rs {a : DK} {r : Rows} (hk : kd a ≤ 30) (h : ∀ p ∈ r, hasP a p.1) : SeqAt.shaped (.tuple (r.map encR)) = true := by
  have z := deep_Rs h
  show (PyData.canLayAll0 (r.map encR) && decide ((PyData.tuple (r.map encR)).depth ≤ 64)) = true
  rw [lay_Rs, deep_tup, decide_eq_true (by omega)]
  rfl
theorem shaped_R {a : DK} {p : Z.Row} (hk : kd a ≤ 30) (h : hasP a p.1) : SeqAt.shaped (encR p) = true := shaped_mem (shaped_Rs (a := a) (r := [p]) hk fun q hq => by rw [List.mem_singleton.mp hq]; exact h) List.mem_cons_self
theorem lay_D : ∀ x : DV, (encD x).canLay0 = true
  | .unit => rfl
  | .num _ => rfl
  | .pair a b => by
    simp only [Z.encD, PyData.canLay0, PyData.canLayAll0, lay_D a, lay_D b]
    decide +kernel
  | .left a => by
    simp only [Z.encD, PyData.canLay0, PyData.canLayAll0, lay_D a]
    decide +kernel
  | .right a => by
    simp only [Z.encD, PyData.canLay0, PyData.canLayAll0, lay_D a]
    decide +kernel
  | .bag r => lay_Rs r
theorem deep_D : ∀ {c : DK} {x : DV}, has c x → (encD x).depth ≤ kd c + 1
  | .unit, .unit, _ => Nat.le_succ_of_le (Nat.le_refl _)
  | .num, .num _, _ => Nat.zero_le _
  | .bag a, .bag r, ⟨_, h⟩ => by
    have z := deep_Rs h
    show (PyData.tuple (r.map encR)).depth ≤ _
    rw [deep_tup, kd]
    omega
  | .pair a b, .pair x y, ⟨h1, h2⟩ => by
    have e1 := deep_D h1
    have e2 := deep_D h2
    show (PyData.tuple [.str "pair", encD x, encD y]).depth ≤ _
    simp only [PyData.depth, PyData.depthAll, kd]
    omega
  | .either a b, .left x, h1 => by
    have e1 := deep_D (c := a) h1
    show (PyData.tuple [.str "left", encD x]).depth ≤ _
    simp only [PyData.depth, PyData.depthAll, kd]
    omega
  | .either a b, .right x, h1 => by
    have e1 := deep_D (c := b) h1
    show (PyData.tuple [.str "right", encD x]).depth ≤ _
    simp only [PyData.depth, PyData.depthAll, kd]
    omega
theorem shaped_D {c : DK} {x : DV} (hk : kd c ≤ 60) (h : has c x) : SeqAt.shaped (encD x) = true := by
  have z := deep_D h
  show ((encD x).canLay0 && decide ((encD x).depth ≤ 64)) = true
  rw [lay_D, decide_eq_true (by omega)]
  rfl
theorem plistt {C : Cells} {ds : List PyData} : pList C [.d (.tuple ds)] = some (.list ds) := rfl
theorem lplus_ok : ∀ {c : DK} {x y : DV} {N : Nat} {C : Cells} {B : Nat}, kd c + 2 ≤ N → kd c ≤ 8 → Grp c x → Grp c y → fits 25 B x → fits 25 B y → m__law_plus N [.d (encD x), .d (encD y)] C = some (.d (encD (plus x y)), C) := by
  intro c x y N C B hN hk gx gy fx fy
  induction gx generalizing y N with
  | num i =>
    obtain ⟨n, rfl⟩ : ∃ n, N = n + 1 := ⟨N - 1, by omega⟩
    cases gy with
    | num j =>
    refine RE.to (q_fun rfl ?_)
    simp only [Z.encD]
    walk_at "qk"
    rw [List.take_length]
    exact ⟨rfl, rfl⟩
  | bag ha hb hr =>
    rename_i a r
    obtain ⟨n, rfl⟩ : ∃ n, N = n + 1 := ⟨N - 1, by omega⟩
    cases gy with
    | bag ha2 hb2 hr2 =>
    rename_i s
    simp only [kd] at hN hk
    have l1 : r.length ≤ 25 := fx.1
    have l2 : s.length ≤ 25 := fy.1
    refine RE.to (q_fun rfl ?_)
    simp only [Z.encD]
    walk_at "qk"
    refine RP.eq (pne_nil (shaped_Rs (a := a) (by omega) hb)) ?_
    cases r with
    | nil =>
      simp only [List.map_nil, List.isEmpty_nil, Bool.not_true]
      walk_at "qk"
      refine RP.eq plistt ?_
      walk_at "qk"
      refine RP.eq plistt ?_
      walk_at "qk"
      refine RP.eq (paddl (by simp only [List.length_nil, List.length_map]; omega)) ?_
      walk_at "qk"
      refine ⟨rfl, RE.eq (bag' (c := a) (rows := [] ++ s) (by omega) rfl (fun q hq => ?_) (by rw [List.length_append]; omega) (by omega)) ?_⟩
      · rcases List.mem_append.mp hq with hq | hq
        · exact hb q hq
        · exact hb2 q hq
      refine ⟨_, _, rfl, rfl, ?_⟩
      rw [List.take_length]
    | cons p r =>
      simp only [List.map_cons, List.isEmpty_cons, Bool.not_false]
      walk_at "qk"
      refine RP.eq (peq_ts (by decide +kernel) (shaped_R (a := a) (by omega) (hb p List.mem_cons_self))) ?_
      walk_at "qk"
      refine RP.eq plistt ?_
      walk_at "qk"
      refine RP.eq plistt ?_
      walk_at "qk"
      refine RP.eq (paddl (by simp only [List.length_cons, List.length_map] at l1 ⊢; omega)) ?_
      walk_at "qk"
      refine ⟨rfl, RE.eq (bag' (c := a) (rows := (p :: r) ++ s) (by omega) (by show some _ = some _; simp only [List.map_cons, List.map_append, List.cons_append]) (fun q hq => ?_) (by rw [List.length_append]; omega) (by omega)) ?_⟩
      · rcases List.mem_append.mp hq with hq | hq
        · exact hb q hq
        · exact hb2 q hq
      refine ⟨_, _, rfl, rfl, ?_⟩
      rw [List.take_length]
  | pair ga gb iha ihb =>
    obtain ⟨n, rfl⟩ : ∃ n, N = n + 1 := ⟨N - 1, by omega⟩
    cases gy with
    | pair ga2 gb2 =>
    simp only [kd] at hN hk
    refine RE.to (q_fun rfl ?_)
    simp only [Z.encD]
    walk_at "qk"
    refine RP.eq (pne_nil (shaped_D (c := .pair _ _) (x := .pair _ _) (by simp only [kd]; omega) ⟨ga.has, gb.has⟩)) ?_
    simp only [List.isEmpty_cons, Bool.not_false]
    walk_at "qk"
    refine ⟨rfl, RE.eq (iha (by omega) (by omega) ga2 fx.1 fy.1) ?_⟩
    walk_at "qk"
    refine ⟨rfl, RE.eq (ihb (by omega) (by omega) gb2 fx.2 fy.2) ?_⟩
    walk_at "qk"
    rw [List.take_length]
    exact ⟨rfl, rfl⟩
theorem norm_scale {t : Int} {r : Rows} (h : Bagged r) : norm (r.map fun p => (p.1, t * p.2)) = scale t r := norm_eq (scale_bagged h) fun x => by rw [cnt_scale, cnt_map]
theorem lmany_ok : ∀ {c : DK} {x : DV} {N : Nat} {C : Cells} {B : Nat} {t : Int}, kd c + 2 ≤ N → kd c ≤ 8 → t.natAbs ≤ 10 ^ 9 → Grp c x → fits 25 B x → m__law_many N [.d (.int t), .d (encD x)] C = some (.d (encD (times t x)), C) := by
  intro c x N C B t hN hk ht gx fx
  induction gx generalizing N with
  | num i =>
    obtain ⟨n, rfl⟩ : ∃ n, N = n + 1 := ⟨N - 1, by omega⟩
    refine RE.to (q_fun rfl ?_)
    simp only [Z.encD]
    walk_at "qk"
    rw [List.take_length]
    exact ⟨rfl, rfl⟩
  | bag ha hb hr =>
    rename_i a r
    obtain ⟨n, rfl⟩ : ∃ n, N = n + 1 := ⟨N - 1, by omega⟩
    simp only [kd] at hN hk
    have l1 : r.length ≤ 25 := fx.1
    refine RE.to (q_fun rfl ?_)
    simp only [Z.encD]
    walk_at "qk"
    refine RP.eq (pne_nil (shaped_Rs (a := a) (by omega) hb)) ?_
    cases r with
    | nil =>
      simp only [List.map_nil, List.isEmpty_nil, Bool.not_true]
      walk_at "qk"
      refine q_iT ?_
      walk_at "qk"
      refine ⟨_, rfl, ?_⟩
      refine q_comp (fun k E => E = C ++ [some ((([] : Rows).take k).map fun p => encR (p.1, t * p.2))]) rfl (fun _ _ _ => rfl) ?_ ?_
      · rintro k av E hi rfl
        obtain ⟨q, hq, rfl⟩ := rows_at2 (r := ([] : Rows)) hi
        walk_at "qk"
        refine ⟨_, _, rfl, app_at, by rw [List.length_map, List.length_take]; omega, ?_⟩
        rw [app_set, map_next _ hq]
        rfl
      · intro E hE
        have hE : E = C ++ [some ((([] : Rows).take (((([] : Rows).map encR).map AV.d).length)).map fun p => encR (p.1, t * p.2))] := hE
        subst hE
        rw [List.length_map, List.length_map, List.take_length]
        refine ⟨_, app_at, ?_⟩
        rw [take_app]
        walk_at "qk"
        refine ⟨rfl, RE.eq (bag' (c := a) (rows := (([] : Rows)).map fun p => (p.1, t * p.2)) (by omega) (by rw [List.map_map]; rfl) (fun q hq => ?_) (by rw [List.length_map]; omega) (by omega)) ?_⟩
        · obtain ⟨z, hz, rfl⟩ := List.mem_map.mp hq
          exact hb z hz
        rw [norm_scale ha]
        refine ⟨_, _, rfl, rfl, ?_⟩
        rw [List.take_length]
    | cons p r =>
      simp only [List.map_cons, List.isEmpty_cons, Bool.not_false]
      walk_at "qk"
      refine RP.eq (peq_ts (by decide +kernel) (shaped_R (a := a) (by omega) (hb p List.mem_cons_self))) ?_
      walk_at "qk"
      refine q_iT ?_
      walk_at "qk"
      refine ⟨_, rfl, ?_⟩
      refine q_comp (fun k E => E = C ++ [some (((p :: r).take k).map fun p => encR (p.1, t * p.2))]) rfl (fun _ _ _ => rfl) ?_ ?_
      · rintro k av E hi rfl
        obtain ⟨q, hq, rfl⟩ := rows_at2 (r := (p :: r)) hi
        walk_at "qk"
        refine ⟨_, _, rfl, app_at, by rw [List.length_map, List.length_take]; omega, ?_⟩
        rw [app_set, map_next _ hq]
        rfl
      · intro E hE
        have hE : E = C ++ [some (((p :: r).take ((((p :: r).map encR).map AV.d).length)).map fun p => encR (p.1, t * p.2))] := hE
        subst hE
        rw [List.length_map, List.length_map, List.take_length]
        refine ⟨_, app_at, ?_⟩
        rw [take_app]
        walk_at "qk"
        refine ⟨rfl, RE.eq (bag' (c := a) (rows := ((p :: r)).map fun p => (p.1, t * p.2)) (by omega) (by rw [List.map_map]; rfl) (fun q hq => ?_) (by rw [List.length_map]; omega) (by omega)) ?_⟩
        · obtain ⟨z, hz, rfl⟩ := List.mem_map.mp hq
          exact hb z hz
        rw [norm_scale ha]
        refine ⟨_, _, rfl, rfl, ?_⟩
        rw [List.take_length]
  | pair ga gb iha ihb =>
    obtain ⟨n, rfl⟩ : ∃ n, N = n + 1 := ⟨N - 1, by omega⟩
    simp only [kd] at hN hk
    refine RE.to (q_fun rfl ?_)
    simp only [Z.encD]
    walk_at "qk"
    refine RP.eq (pne_nil (shaped_D (c := .pair _ _) (x := .pair _ _) (by simp only [kd]; omega) ⟨ga.has, gb.has⟩)) ?_
    simp only [List.isEmpty_cons, Bool.not_false]
    walk_at "qk"
    refine ⟨rfl, RE.eq (iha (by omega) (by omega) fx.1) ?_⟩
    walk_at "qk"
    refine ⟨rfl, RE.eq (ihb (by omega) (by omega) fx.2) ?_⟩
    walk_at "qk"
    rw [List.take_length]
    exact ⟨rfl, rfl⟩
end N25
end
section
open M
local macro_rules | `(tactic| walk_at "q1") => `(tactic| (first
  | with_reducible refine q_seq ?_ | with_reducible refine q_sif ?_ | with_reducible refine q_asg ?_ | with_reducible refine q_ret ?_ | with_reducible refine q_next ?_ | with_reducible refine q_drop ?_ | with_reducible refine q_for ?_ | with_reducible refine q_par ?_ | with_reducible refine q_par3 ?_
  | ((with_reducible refine' q_var ?k1 ?_); (case k1 => rfl)) | with_reducible refine q_c ?_ | with_reducible refine q_op ?_ | with_reducible refine q_un ?_ | with_reducible refine q_cons ?_ | with_reducible refine q_nil ?_ | with_reducible refine q_cb ?_ | with_reducible refine q_ty ?_
  | with_reducible refine q_test ?_ | with_reducible refine q_if ?_ | with_reducible refine q_tup ?_ | with_reducible refine q_lst ?_ | with_reducible refine q_and ?_ | with_reducible refine q_or ?_ | with_reducible refine q_not ?_ | with_reducible refine q_andV ?_ | with_reducible refine q_orV ?_ | with_reducible refine q_notV ?_
  | with_reducible refine q_call ?_ | with_reducible refine q_callN ?_ | with_reducible refine q_sl ?_ | with_reducible refine q_onone ?_ | with_reducible refine q_osome ?_ | with_reducible refine q_gname ?_ | with_reducible refine q_gcons ?_ | with_reducible refine q_gnil ?_ | with_reducible refine q_gconsM ?_ | with_reducible refine q_gnilM ?_ | with_reducible refine q_gsub ?_ | ((with_reducible refine' q_gtup ?k1 ?_); (case k1 => rfl))
  | with_reducible refine q_leave ?_ | with_reducible refine q_yes ?_ | with_reducible refine q_it ?_ | with_reducible refine q_if0 ?_ | with_reducible refine q_iR1 ?_ | with_reducible refine q_lstC ?_ | with_reducible refine q_tru ?_ | with_reducible refine q_lc ?_
  | with_reducible refine RP.eq paddi ?_ | with_reducible refine RP.eq psubi ?_ | with_reducible refine RP.eq pinti ?_ | with_reducible refine RP.eq pintb ?_ | with_reducible refine RP.eq pabsi ?_ | with_reducible refine RP.eq pnegi ?_ | with_reducible refine RP.eq peqs ?_ | with_reducible refine RP.eq peqi ?_
  | with_reducible refine RP.eq pnes ?_ | with_reducible refine RP.eq pnei ?_ | with_reducible refine RP.eq pgti ?_ | with_reducible refine RP.eq plei ?_ | with_reducible refine RP.eq pgei ?_ | with_reducible refine RP.eq plti ?_ | with_reducible refine RP.eq plent ?_ | with_reducible refine RP.eq plenl ?_
  | with_reducible refine RP.eq psltt ?_ | with_reducible refine RP.eq psltl ?_
  | ((with_reducible refine' RP.eq (pmuli ?k1) ?_); (case k1 => first | (unfold L2.CMul; omega) | (unfold L2.CMul; decide))) | ((with_reducible refine' RP.eq (pmodi ?k1) ?_); (case k1 => first | omega | decide)) | ((with_reducible refine' RP.eq (pfdivi ?k1) ?_); (case k1 => unfold L2.CDiv; omega)) | ((with_reducible refine' RP.eq (pdivmodi ?k1) ?_); (case k1 => unfold L2.CDiv; omega)) | ((with_reducible refine' RP.eq (pdivmodWi ?k1 ?k2) ?_); (case k1 => omega); (case k2 => omega)) | ((with_reducible refine' RP.eq (ppowi ?k1) ?_); (case k1 => unfold L2.CPow; decide))
  | with_reducible refine q_asB ?_ | ((with_reducible refine' q_allD ?k1 ?_); (case k1 => rfl))
  | with_reducible refine Z.r_nt ?_ | with_reducible refine Z.r_nf ?_
  | with_reducible refine RP.eq isi_int_none ?_ | with_reducible refine RP.eq isi_int_bool ?_ | with_reducible refine RP.eq isi_int_int ?_ | with_reducible refine RP.eq isi_int_str ?_ | with_reducible refine RP.eq isi_int_tuple ?_ | with_reducible refine RP.eq isi_int_list ?_ | with_reducible refine RP.eq isi_bool_none ?_ | with_reducible refine RP.eq isi_bool_bool ?_ | with_reducible refine RP.eq isi_bool_int ?_ | with_reducible refine RP.eq isi_bool_str ?_ | with_reducible refine RP.eq isi_bool_tuple ?_ | with_reducible refine RP.eq isi_bool_list ?_ | with_reducible refine RP.eq isi_tuple_none ?_ | with_reducible refine RP.eq isi_tuple_bool ?_ | with_reducible refine RP.eq isi_tuple_int ?_ | with_reducible refine RP.eq isi_tuple_str ?_ | with_reducible refine RP.eq isi_tuple_tuple ?_ | with_reducible refine RP.eq isi_tuple_list ?_ | with_reducible refine RP.eq isi_str_none ?_ | with_reducible refine RP.eq isi_str_bool ?_ | with_reducible refine RP.eq isi_str_int ?_ | with_reducible refine RP.eq isi_str_str ?_ | with_reducible refine RP.eq isi_str_tuple ?_ | with_reducible refine RP.eq isi_str_list ?_ | with_reducible refine RP.eq isi_list_none ?_ | with_reducible refine RP.eq isi_list_bool ?_ | with_reducible refine RP.eq isi_list_int ?_ | with_reducible refine RP.eq isi_list_str ?_ | with_reducible refine RP.eq isi_list_tuple ?_ | with_reducible refine RP.eq isi_list_list ?_
  | with_reducible refine RP.eq isi_int ?_ | with_reducible refine RP.eq isi_bool ?_ | with_reducible refine RP.eq isi_tuple ?_ | with_reducible refine RP.eq isi_str ?_ | with_reducible refine RP.eq isi_list ?_
  | ((with_reducible refine' q_len ?k1 ?_); (case k1 => rfl)) | ((with_reducible refine' RP.eq (paddt ?k1) ?_); (case k1 => exact Nat.le_of_ble_eq_true rfl))
  | ((with_reducible refine' q_lcons ?k1 ?_); (case k1 => rfl)) | ((with_reducible refine' q_lnil ?k1 ?_); (case k1 => rfl)) | with_reducible refine q_tab ?_ | with_reducible refine q_isTab ?_ | with_reducible refine q_noTab ?_ | with_reducible refine q_str1 ?_ | with_reducible refine q_int1 ?_
  | with_reducible refine RP.eq ptuplel ?_
  | with_reducible refine RP.eq pix0 ?_ | with_reducible refine RP.eq pix1 ?_ | with_reducible refine RP.eq pix2 ?_))
local macro_rules | `(tactic| walk_at "qq") => `(tactic| repeat walk_at "q1")
local macro_rules | `(tactic| walk_at "cell") => `(tactic| first | assumption | (apply M.set_at; walk_at "cell"))
local macro_rules | `(tactic| walk_at "qc") => `(tactic| repeat (first
  | walk_at "q1"
  | ((refine' M.cIx ?k1 ?k2 ?_); (case k1 => walk_at "cell"); (case k2 => rfl))
  | ((refine' M.cSet ?k1 ?k2 ?_); (case k1 => walk_at "cell"); (case k2 => rfl))))
local macro_rules | `(tactic| walk_at "ks") => `(tactic| first | (refine M.q_dec (fun hs => absurd hs (by decide +kernel)) (fun _ => ?_)) | (refine M.q_dec (fun _ => ?_) (fun hs => absurd rfl hs)) | (refine M.q_ndec (fun _ => ?_) (fun hs => absurd hs (by decide +kernel))) | (refine M.q_ndec (fun hs => absurd rfl hs) (fun _ => ?_)))
local macro_rules | `(tactic| walk_at "qk") => `(tactic| repeat (first
  | walk_at "q1"
  | ((refine' M.cIx ?k1 ?k2 ?_); (case k1 => walk_at "cell"); (case k2 => rfl))
  | ((refine' M.cSet ?k1 ?k2 ?_); (case k1 => walk_at "cell"); (case k2 => rfl))
  | walk_at "ks"))
namespace N25
open PySem PySem.Spec PyProof.Rows L2 Z M
def dK : DK → DK
  | .unit => .unit | .num => .num | .bag a => .bag a
  | .pair a b => .pair (dK a) (dK b)
  | .either a b => .either (.either (dK a) (dK b)) (.either a b)
def fitD : DK → DV → DV → Bool
  | .pair a b, .pair x y, .pair u v => fitD a x u && fitD b y v
  | .either _ _, _, .right _ => true
  | .either a _, .left x, .left (.left u) => fitD a x u
  | .either _ b, .right x, .left (.right u) => fitD b x u
  | .either _ _, _, _ => false
  | _, _, _ => true
def ledD : DK → DV → DV → DV
  | .unit, _, _ => .unit
  | .pair a b, .pair x y, .pair u v => .pair (ledD a x u) (ledD b y v)
  | .either _ _, _, .right w => w
  | .either a _, .left x, .left (.left u) => .left (ledD a x u)
  | .either _ b, .right x, .left (.right u) => .right (ledD b x u)
  | .either _ _, x, _ => x
  | _, x, u => plus x u
def lessD : DK → DV → DV → DV
  | .unit, _, _ => .unit
  | .pair a b, .pair x y, .pair u v => .pair (lessD a x u) (lessD b y v)
  | .either a _, .left x, .left y => .left (.left (lessD a x y))
  | .either _ b, .right x, .right y => .left (.right (lessD b x y))
  | .either _ _, x, _ => .right x
  | _, x, y => plus x (times (-1) y)
theorem dK_ok : ∀ {c : DK}, c.ok = true → (dK c).ok = true
  | .unit, _ => rfl
  | .num, _ => rfl
  | .bag a, h => h
  | .pair a b, h => by
    simp only [DK.ok, Bool.and_eq_true] at h
    simp only [dK, DK.ok, Bool.and_eq_true]
    exact ⟨dK_ok h.1, dK_ok h.2⟩
  | .either a b, h => by
    simp only [DK.ok, Bool.and_eq_true] at h
    simp only [dK, DK.ok, Bool.and_eq_true]
    exact ⟨⟨dK_ok h.1, dK_ok h.2⟩, h⟩
theorem dK_deep : ∀ c : DK, kd (dK c) ≤ 2 * kd c
  | .unit => by decide
  | .num => by decide
  | .bag a => by simp only [dK, kd]; omega
  | .pair a b => by
    have e1 := dK_deep a
    have e2 := dK_deep b
    simp only [dK, kd]
    omega
  | .either a b => by
    have e1 := dK_deep a
    have e2 := dK_deep b
    simp only [dK, kd]
    omega
theorem ledD_has : ∀ {c : DK} {x u : DV}, c.ok = true → has c x → has (dK c) u → has c (ledD c x u)
  | .unit, .unit, .unit, _, _, _ => trivial
  | .num, .num i, .num j, _, _, _ => trivial
  | .bag a, .bag r, .bag s, h, hx, hu => ((Grp.of (k := .bag a) h hx).plus (Grp.of (k := .bag a) h hu)).has
  | .pair a b, .pair x y, .pair u v, h, hx, hu => by
    simp only [DK.ok, Bool.and_eq_true] at h
    exact ⟨ledD_has h.1 hx.1 hu.1, ledD_has h.2 hx.2 hu.2⟩
  | .either a b, .left x, .left (.left u), h, hx, hu => by
    simp only [DK.ok, Bool.and_eq_true] at h
    exact ledD_has (c := a) h.1 hx hu
  | .either a b, .right x, .left (.right u), h, hx, hu => by
    simp only [DK.ok, Bool.and_eq_true] at h
    exact ledD_has (c := b) h.2 hx hu
  | .either a b, .left x, .left (.right u), h, hx, hu => hx
  | .either a b, .right x, .left (.left u), h, hx, hu => hx
  | .either a b, .left x, .right w, h, hx, hu => hu
  | .either a b, .right x, .right w, h, hx, hu => hu
theorem lessD_has : ∀ {c : DK} {x y : DV}, c.ok = true → has c x → has c y → has (dK c) (lessD c x y)
  | .unit, .unit, .unit, _, _, _ => trivial
  | .num, .num i, .num j, _, _, _ => trivial
  | .bag a, .bag r, .bag s, h, hx, hu => ((Grp.of (k := .bag a) h hx).plus ((Grp.of (k := .bag a) h hu).times (-1))).has
  | .pair a b, .pair x y, .pair u v, h, hx, hu => by
    simp only [DK.ok, Bool.and_eq_true] at h
    exact ⟨lessD_has h.1 hx.1 hu.1, lessD_has h.2 hx.2 hu.2⟩
  | .either a b, .left x, .left y, h, hx, hu => by
    simp only [DK.ok, Bool.and_eq_true] at h
    exact lessD_has (c := a) h.1 hx hu
  | .either a b, .right x, .right y, h, hx, hu => by
    simp only [DK.ok, Bool.and_eq_true] at h
    exact lessD_has (c := b) h.2 hx hu
  | .either a b, .left x, .right y, h, hx, hu => hx
  | .either a b, .right x, .left y, h, hx, hu => hx
theorem ledD_fits {R1 R2 B1 B2 : Nat} : ∀ {c : DK} {x u : DV}, c.ok = true → has c x → has (dK c) u → fits R1 B1 x → fits R2 B2 u → fits (R1 + R2) (B1 + B2) (ledD c x u)
  | .unit, .unit, .unit, _, _, _, _, _ => trivial
  | .num, .num i, .num j, h, hx, hu, f1, f2 => fits_plus (Grp.num i) (Grp.num j) f1 f2
  | .bag a, .bag r, .bag s, h, hx, hu, f1, f2 => fits_plus (Grp.of (k := .bag a) h hx) (Grp.of (k := .bag a) h hu) f1 f2
  | .pair a b, .pair x y, .pair u v, h, hx, hu, f1, f2 => by
    simp only [DK.ok, Bool.and_eq_true] at h
    exact ⟨ledD_fits h.1 hx.1 hu.1 f1.1 f2.1, ledD_fits h.2 hx.2 hu.2 f1.2 f2.2⟩
  | .either a b, .left x, .left (.left u), h, hx, hu, f1, f2 => by
    simp only [DK.ok, Bool.and_eq_true] at h
    exact ledD_fits (c := a) h.1 hx hu f1 f2
  | .either a b, .right x, .left (.right u), h, hx, hu, f1, f2 => by
    simp only [DK.ok, Bool.and_eq_true] at h
    exact ledD_fits (c := b) h.2 hx hu f1 f2
  | .either a b, .left x, .left (.right u), h, hx, hu, f1, f2 => fits.mono (v := .left x) (by omega) (by omega) f1
  | .either a b, .right x, .left (.left u), h, hx, hu, f1, f2 => fits.mono (v := .right x) (by omega) (by omega) f1
  | .either a b, .left x, .right w, h, hx, hu, f1, f2 => fits.mono (v := w) (by omega) (by omega) f2
  | .either a b, .right x, .right w, h, hx, hu, f1, f2 => fits.mono (v := w) (by omega) (by omega) f2
theorem lessD_fits {R1 R2 B1 B2 : Nat} : ∀ {c : DK} {x y : DV}, c.ok = true → has c x → has c y → fits R1 B1 x → fits R2 B2 y → fits (R1 + R2) (B1 + B2) (lessD c x y)
  | .unit, .unit, .unit, _, _, _, _, _ => trivial
  | .num, .num i, .num j, h, hx, hu, f1, f2 => by
    have z := fits_times (M := 1) (n := -1) (by decide) (Grp.num j) f2
    rw [Nat.one_mul] at z
    exact fits_plus (Grp.num i) ((Grp.num j).times (-1)) f1 z
  | .bag a, .bag r, .bag s, h, hx, hu, f1, f2 => by
    have z := fits_times (M := 1) (n := -1) (by decide) (Grp.of (k := .bag a) h hu) f2
    rw [Nat.one_mul] at z
    exact fits_plus (Grp.of (k := .bag a) h hx) ((Grp.of (k := .bag a) h hu).times (-1)) f1 z
  | .pair a b, .pair x y, .pair u v, h, hx, hu, f1, f2 => by
    simp only [DK.ok, Bool.and_eq_true] at h
    exact ⟨lessD_fits h.1 hx.1 hu.1 f1.1 f2.1, lessD_fits h.2 hx.2 hu.2 f1.2 f2.2⟩
  | .either a b, .left x, .left y, h, hx, hu, f1, f2 => by
    simp only [DK.ok, Bool.and_eq_true] at h
    exact lessD_fits (c := a) h.1 hx hu f1 f2
  | .either a b, .right x, .right y, h, hx, hu, f1, f2 => by
    simp only [DK.ok, Bool.and_eq_true] at h
    exact lessD_fits (c := b) h.2 hx hu f1 f2
  | .either a b, .left x, .right y, h, hx, hu, f1, f2 => fits.mono (v := x) (by omega) (by omega) f1
  | .either a b, .right x, .left y, h, hx, hu, f1, f2 => fits.mono (v := x) (by omega) (by omega) f1
/-- w less v fits v -/
theorem less_fit : ∀ {c : DK} {x y : DV}, has c x → has c y → fitD c y (lessD c x y) = true
  | .unit, .unit, .unit, _, _ => rfl
  | .num, .num i, .num j, _, _ => rfl
  | .bag a, .bag r, .bag s, _, _ => rfl
  | .pair a b, .pair x y, .pair u v, hx, hu => by
    rw [lessD, fitD, less_fit hx.1 hu.1, less_fit hx.2 hu.2]
    rfl
  | .either a b, .left x, .left y, hx, hu => by
    rw [lessD, fitD]
    exact less_fit (c := a) hx hu
  | .either a b, .right x, .right y, hx, hu => by
    rw [lessD, fitD]
    exact less_fit (c := b) hx hu
  | .either a b, .left x, .right y, hx, hu => rfl
  | .either a b, .right x, .left y, hx, hu => rfl
/-- v led by w less v is w -/
theorem less_led : ∀ {c : DK} {x y : DV}, c.ok = true → has c x → has c y → ledD c y (lessD c x y) = x
  | .unit, .unit, .unit, _, _, _ => rfl
  | .num, .num i, .num j, h, _, _ => by
    show plus (.num j) (plus (.num i) (times (-1) (.num j))) = .num i
    show DV.num (j + (i + -1 * j)) = .num i
    congr 1
    omega
  | .bag a, .bag r, .bag s, h, hx, hu => by
    have gx := Grp.of (k := .bag a) h hx
    have gu := Grp.of (k := .bag a) h hu
    show plus (.bag s) (plus (.bag r) (times (-1) (.bag s))) = .bag r
    rw [plus_comm gu (gx.plus (gu.times (-1))), plus_assoc gx (gu.times (-1)) gu, plus_comm (gu.times (-1)) gu, plus_opp gu, plus_zero gx]
  | .pair a b, .pair x y, .pair u v, h, hx, hu => by
    simp only [DK.ok, Bool.and_eq_true] at h
    rw [lessD, ledD, less_led h.1 hx.1 hu.1, less_led h.2 hx.2 hu.2]
  | .either a b, .left x, .left y, h, hx, hu => by
    simp only [DK.ok, Bool.and_eq_true] at h
    rw [lessD, ledD, less_led (c := a) h.1 hx hu]
  | .either a b, .right x, .right y, h, hx, hu => by
    simp only [DK.ok, Bool.and_eq_true] at h
    rw [lessD, ledD, less_led (c := b) h.2 hx hu]
  | .either a b, .left x, .right y, h, hx, hu => rfl
  | .either a b, .right x, .left y, h, hx, hu => rfl
end N25
end
section
open M
local macro_rules | `(tactic| walk_at "q1") => `(tactic| (first
  | with_reducible refine q_seq ?_ | with_reducible refine q_sif ?_ | with_reducible refine q_asg ?_ | with_reducible refine q_ret ?_ | with_reducible refine q_next ?_ | with_reducible refine q_drop ?_ | with_reducible refine q_for ?_ | with_reducible refine q_par ?_ | with_reducible refine q_par3 ?_
  | ((with_reducible refine' q_var ?k1 ?_); (case k1 => rfl)) | with_reducible refine q_c ?_ | with_reducible refine q_op ?_ | with_reducible refine q_un ?_ | with_reducible refine q_cons ?_ | with_reducible refine q_nil ?_ | with_reducible refine q_cb ?_ | with_reducible refine q_ty ?_
  | with_reducible refine q_test ?_ | with_reducible refine q_if ?_ | with_reducible refine q_tup ?_ | with_reducible refine q_lst ?_ | with_reducible refine q_and ?_ | with_reducible refine q_or ?_ | with_reducible refine q_not ?_ | with_reducible refine q_andV ?_ | with_reducible refine q_orV ?_ | with_reducible refine q_notV ?_
  | with_reducible refine q_call ?_ | with_reducible refine q_callN ?_ | with_reducible refine q_sl ?_ | with_reducible refine q_onone ?_ | with_reducible refine q_osome ?_ | with_reducible refine q_gname ?_ | with_reducible refine q_gcons ?_ | with_reducible refine q_gnil ?_ | with_reducible refine q_gconsM ?_ | with_reducible refine q_gnilM ?_ | with_reducible refine q_gsub ?_ | ((with_reducible refine' q_gtup ?k1 ?_); (case k1 => rfl))
  | with_reducible refine q_leave ?_ | with_reducible refine q_yes ?_ | with_reducible refine q_it ?_ | with_reducible refine q_if0 ?_ | with_reducible refine q_iR1 ?_ | with_reducible refine q_lstC ?_ | with_reducible refine q_tru ?_ | with_reducible refine q_lc ?_
  | with_reducible refine RP.eq paddi ?_ | with_reducible refine RP.eq psubi ?_ | with_reducible refine RP.eq pinti ?_ | with_reducible refine RP.eq pintb ?_ | with_reducible refine RP.eq pabsi ?_ | with_reducible refine RP.eq pnegi ?_ | with_reducible refine RP.eq peqs ?_ | with_reducible refine RP.eq peqi ?_
  | with_reducible refine RP.eq pnes ?_ | with_reducible refine RP.eq pnei ?_ | with_reducible refine RP.eq pgti ?_ | with_reducible refine RP.eq plei ?_ | with_reducible refine RP.eq pgei ?_ | with_reducible refine RP.eq plti ?_ | with_reducible refine RP.eq plent ?_ | with_reducible refine RP.eq plenl ?_
  | with_reducible refine RP.eq psltt ?_ | with_reducible refine RP.eq psltl ?_
  | ((with_reducible refine' RP.eq (pmuli ?k1) ?_); (case k1 => first | (unfold L2.CMul; omega) | (unfold L2.CMul; decide))) | ((with_reducible refine' RP.eq (pmodi ?k1) ?_); (case k1 => first | omega | decide)) | ((with_reducible refine' RP.eq (pfdivi ?k1) ?_); (case k1 => unfold L2.CDiv; omega)) | ((with_reducible refine' RP.eq (pdivmodi ?k1) ?_); (case k1 => unfold L2.CDiv; omega)) | ((with_reducible refine' RP.eq (pdivmodWi ?k1 ?k2) ?_); (case k1 => omega); (case k2 => omega)) | ((with_reducible refine' RP.eq (ppowi ?k1) ?_); (case k1 => unfold L2.CPow; decide))
  | with_reducible refine q_asB ?_ | ((with_reducible refine' q_allD ?k1 ?_); (case k1 => rfl))
  | with_reducible refine Z.r_nt ?_ | with_reducible refine Z.r_nf ?_
  | with_reducible refine RP.eq isi_int_none ?_ | with_reducible refine RP.eq isi_int_bool ?_ | with_reducible refine RP.eq isi_int_int ?_ | with_reducible refine RP.eq isi_int_str ?_ | with_reducible refine RP.eq isi_int_tuple ?_ | with_reducible refine RP.eq isi_int_list ?_ | with_reducible refine RP.eq isi_bool_none ?_ | with_reducible refine RP.eq isi_bool_bool ?_ | with_reducible refine RP.eq isi_bool_int ?_ | with_reducible refine RP.eq isi_bool_str ?_ | with_reducible refine RP.eq isi_bool_tuple ?_ | with_reducible refine RP.eq isi_bool_list ?_ | with_reducible refine RP.eq isi_tuple_none ?_ | with_reducible refine RP.eq isi_tuple_bool ?_ | with_reducible refine RP.eq isi_tuple_int ?_ | with_reducible refine RP.eq isi_tuple_str ?_ | with_reducible refine RP.eq isi_tuple_tuple ?_ | with_reducible refine RP.eq isi_tuple_list ?_ | with_reducible refine RP.eq isi_str_none ?_ | with_reducible refine RP.eq isi_str_bool ?_ | with_reducible refine RP.eq isi_str_int ?_ | with_reducible refine RP.eq isi_str_str ?_ | with_reducible refine RP.eq isi_str_tuple ?_ | with_reducible refine RP.eq isi_str_list ?_ | with_reducible refine RP.eq isi_list_none ?_ | with_reducible refine RP.eq isi_list_bool ?_ | with_reducible refine RP.eq isi_list_int ?_ | with_reducible refine RP.eq isi_list_str ?_ | with_reducible refine RP.eq isi_list_tuple ?_ | with_reducible refine RP.eq isi_list_list ?_
  | with_reducible refine RP.eq isi_int ?_ | with_reducible refine RP.eq isi_bool ?_ | with_reducible refine RP.eq isi_tuple ?_ | with_reducible refine RP.eq isi_str ?_ | with_reducible refine RP.eq isi_list ?_
  | ((with_reducible refine' q_len ?k1 ?_); (case k1 => rfl)) | ((with_reducible refine' RP.eq (paddt ?k1) ?_); (case k1 => exact Nat.le_of_ble_eq_true rfl))
  | ((with_reducible refine' q_lcons ?k1 ?_); (case k1 => rfl)) | ((with_reducible refine' q_lnil ?k1 ?_); (case k1 => rfl)) | with_reducible refine q_tab ?_ | with_reducible refine q_isTab ?_ | with_reducible refine q_noTab ?_ | with_reducible refine q_str1 ?_ | with_reducible refine q_int1 ?_
  | with_reducible refine RP.eq ptuplel ?_
  | with_reducible refine RP.eq pix0 ?_ | with_reducible refine RP.eq pix1 ?_ | with_reducible refine RP.eq pix2 ?_))
local macro_rules | `(tactic| walk_at "qq") => `(tactic| repeat walk_at "q1")
local macro_rules | `(tactic| walk_at "cell") => `(tactic| first | assumption | (apply M.set_at; walk_at "cell"))
local macro_rules | `(tactic| walk_at "qc") => `(tactic| repeat (first
  | walk_at "q1"
  | ((refine' M.cIx ?k1 ?k2 ?_); (case k1 => walk_at "cell"); (case k2 => rfl))
  | ((refine' M.cSet ?k1 ?k2 ?_); (case k1 => walk_at "cell"); (case k2 => rfl))))
local macro_rules | `(tactic| walk_at "ks") => `(tactic| first | (refine M.q_dec (fun hs => absurd hs (by decide +kernel)) (fun _ => ?_)) | (refine M.q_dec (fun _ => ?_) (fun hs => absurd rfl hs)) | (refine M.q_ndec (fun _ => ?_) (fun hs => absurd hs (by decide +kernel))) | (refine M.q_ndec (fun hs => absurd rfl hs) (fun _ => ?_)))
local macro_rules | `(tactic| walk_at "qk") => `(tactic| repeat (first
  | walk_at "q1"
  | ((refine' M.cIx ?k1 ?k2 ?_); (case k1 => walk_at "cell"); (case k2 => rfl))
  | ((refine' M.cSet ?k1 ?k2 ?_); (case k1 => walk_at "cell"); (case k2 => rfl))
  | walk_at "ks"))
namespace N25
open PySem PySem.Spec PyProof.Rows L2 Z M
theorem kindch_ok : ∀ (c : DK) {N : Nat} {C : Cells}, kd c ≤ N → m_kind_of_changes N [.d (encK c)] C = some (.d (encK (dK c)), C)
  | .unit, N, C, hN => by
    obtain ⟨n, rfl⟩ : ∃ n, N = n + 1 := ⟨N - 1, by have := kd_pos .unit; omega⟩
    refine RE.to (q_fun rfl ?_)
    simp only [encK]
    walk_at "qk"
    rw [List.take_length]
    exact ⟨rfl, rfl⟩
  | .num, N, C, hN => by
    obtain ⟨n, rfl⟩ : ∃ n, N = n + 1 := ⟨N - 1, by have := kd_pos .num; omega⟩
    refine RE.to (q_fun rfl ?_)
    simp only [encK]
    walk_at "qk"
    rw [List.take_length]
    exact ⟨rfl, rfl⟩
  | .bag a, N, C, hN => by
    obtain ⟨n, rfl⟩ : ∃ n, N = n + 1 := ⟨N - 1, by have := kd_pos (.bag a); omega⟩
    refine RE.to (q_fun rfl ?_)
    simp only [encK]
    walk_at "qk"
    rw [List.take_length]
    exact ⟨rfl, rfl⟩
  | .pair a b, N, C, hN => by
    obtain ⟨n, rfl⟩ : ∃ n, N = n + 1 := ⟨N - 1, by have := kd_pos (.pair a b); omega⟩
    simp only [kd] at hN
    refine RE.to (q_fun rfl ?_)
    simp only [encK]
    walk_at "qk"
    refine ⟨rfl, RE.eq (kindch_ok a (by omega)) ?_⟩
    walk_at "qk"
    refine ⟨rfl, RE.eq (kindch_ok b (by omega)) ?_⟩
    walk_at "qk"
    rw [List.take_length]
    exact ⟨rfl, rfl⟩
  | .either a b, N, C, hN => by
    obtain ⟨n, rfl⟩ : ∃ n, N = n + 1 := ⟨N - 1, by have := kd_pos (.either a b); omega⟩
    simp only [kd] at hN
    refine RE.to (q_fun rfl ?_)
    simp only [encK]
    walk_at "qk"
    refine ⟨rfl, RE.eq (kindch_ok a (by omega)) ?_⟩
    walk_at "qk"
    refine ⟨rfl, RE.eq (kindch_ok b (by omega)) ?_⟩
    walk_at "qk"
    rw [List.take_length]
    exact ⟨rfl, rfl⟩
theorem sidekL {a b : DK} {x : DV} {N : Nat} {C : Cells} (hN : 1 ≤ N) : m__side_kind N [.d (encK (.either a b)), .d (encD (.left x))] C = some (.d (encK a), C) := by
  obtain ⟨n, rfl⟩ : ∃ n, N = n + 1 := ⟨N - 1, by omega⟩
  refine RE.to (q_fun rfl ?_)
  simp only [encK, Z.encD]
  walk_at "qk"
  rw [List.take_length]
  exact ⟨rfl, rfl⟩
theorem sidekR {a b : DK} {x : DV} {N : Nat} {C : Cells} (hN : 1 ≤ N) : m__side_kind N [.d (encK (.either a b)), .d (encD (.right x))] C = some (.d (encK b), C) := by
  obtain ⟨n, rfl⟩ : ∃ n, N = n + 1 := ⟨N - 1, by omega⟩
  refine RE.to (q_fun rfl ?_)
  simp only [encK, Z.encD]
  walk_at "qk"
  rw [List.take_length]
  exact ⟨rfl, rfl⟩
theorem fitsin_ok : ∀ (c : DK) {x u : DV} {N : Nat} {C : Cells}, kd c + 2 ≤ N → has c x → has (dK c) u → m_fits_in N [.d (encK c), .d (encD x), .d (encD u)] C = some (.d (.bool (fitD c x u)), C)
  | .unit, .unit, .unit, N, C, hN, hx, hu => by
    obtain ⟨n, rfl⟩ : ∃ n, N = n + 1 := ⟨N - 1, by omega⟩
    refine RE.to (q_fun rfl ?_)
    simp only [encK, Z.encD]
    walk_at "qk"
    rw [List.take_length]
    exact ⟨rfl, rfl⟩
  | .num, .num i, .num j, N, C, hN, hx, hu => by
    obtain ⟨n, rfl⟩ : ∃ n, N = n + 1 := ⟨N - 1, by omega⟩
    refine RE.to (q_fun rfl ?_)
    simp only [encK, Z.encD]
    walk_at "qk"
    rw [List.take_length]
    exact ⟨rfl, rfl⟩
  | .bag a, .bag r, .bag s, N, C, hN, hx, hu => by
    obtain ⟨n, rfl⟩ : ∃ n, N = n + 1 := ⟨N - 1, by omega⟩
    refine RE.to (q_fun rfl ?_)
    simp only [encK, Z.encD]
    walk_at "qk"
    rw [List.take_length]
    exact ⟨rfl, rfl⟩
  | .pair a b, .pair x y, .pair u v, N, C, hN, hx, hu => by
    obtain ⟨n, rfl⟩ : ∃ n, N = n + 1 := ⟨N - 1, by omega⟩
    simp only [kd] at hN
    refine RE.to (q_fun rfl ?_)
    simp only [encK, Z.encD]
    walk_at "qk"
    refine ⟨rfl, RE.eq (fitsin_ok a (by omega) hx.1 hu.1) ?_⟩
    walk_at "qk"
    refine q_bool (fun h => ?_) (fun h => ?_)
    · refine q_call ?_
      walk_at "qk"
      refine ⟨rfl, RE.eq (fitsin_ok b (by omega) hx.2 hu.2) ?_⟩
      refine ⟨_, _, rfl, ?_⟩
      rw [List.take_length, fitD, h]
      exact ⟨rfl, rfl⟩
    · refine ⟨_, _, rfl, ?_⟩
      rw [List.take_length, fitD, h]
      exact ⟨rfl, rfl⟩
  | .either a b, .left x, .right w, N, C, hN, hx, hu => by
    obtain ⟨n, rfl⟩ : ∃ n, N = n + 1 := ⟨N - 1, by omega⟩
    refine RE.to (q_fun rfl ?_)
    simp only [encK, Z.encD]
    walk_at "qk"
    rw [List.take_length]
    exact ⟨rfl, rfl⟩
  | .either a b, .right x, .right w, N, C, hN, hx, hu => by
    obtain ⟨n, rfl⟩ : ∃ n, N = n + 1 := ⟨N - 1, by omega⟩
    refine RE.to (q_fun rfl ?_)
    simp only [encK, Z.encD]
    walk_at "qk"
    rw [List.take_length]
    exact ⟨rfl, rfl⟩
  | .either a b, .left x, .left (.left u), N, C, hN, hx, hu => by
    obtain ⟨n, rfl⟩ : ∃ n, N = n + 1 := ⟨N - 1, by omega⟩
    simp only [kd] at hN
    refine RE.to (q_fun rfl ?_)
    simp only [encK, Z.encD]
    walk_at "qk"
    refine ⟨rfl, RE.eq (sidekL (a := a) (b := b) (x := x) (by omega)) ?_⟩
    walk_at "qk"
    refine ⟨rfl, RE.eq (fitsin_ok a (by omega) hx hu) ?_⟩
    refine ⟨_, _, rfl, ?_⟩
    rw [List.take_length]
    exact ⟨rfl, rfl⟩
  | .either a b, .right x, .left (.right u), N, C, hN, hx, hu => by
    obtain ⟨n, rfl⟩ : ∃ n, N = n + 1 := ⟨N - 1, by omega⟩
    simp only [kd] at hN
    refine RE.to (q_fun rfl ?_)
    simp only [encK, Z.encD]
    walk_at "qk"
    refine ⟨rfl, RE.eq (sidekR (a := a) (b := b) (x := x) (by omega)) ?_⟩
    walk_at "qk"
    refine ⟨rfl, RE.eq (fitsin_ok b (by omega) hx hu) ?_⟩
    refine ⟨_, _, rfl, ?_⟩
    rw [List.take_length]
    exact ⟨rfl, rfl⟩
  | .either a b, .left x, .left (.right u), N, C, hN, hx, hu => by
    obtain ⟨n, rfl⟩ : ∃ n, N = n + 1 := ⟨N - 1, by omega⟩
    refine RE.to (q_fun rfl ?_)
    simp only [encK, Z.encD]
    walk_at "qk"
    rw [List.take_length]
    exact ⟨rfl, rfl⟩
  | .either a b, .right x, .left (.left u), N, C, hN, hx, hu => by
    obtain ⟨n, rfl⟩ : ∃ n, N = n + 1 := ⟨N - 1, by omega⟩
    refine RE.to (q_fun rfl ?_)
    simp only [encK, Z.encD]
    walk_at "qk"
    rw [List.take_length]
    exact ⟨rfl, rfl⟩
theorem ledin_ok : ∀ (c : DK) {x u : DV} {N : Nat} {C : Cells} {B : Nat}, c.ok = true → kd c ≤ 20 → 2 * kd c + 4 ≤ N → has c x → has (dK c) u → fits 50 B x → fits 50 B u → m_led_in N [.d (encK c), .d (encD x), .d (encD u)] C = some (.d (encD (ledD c x u)), C)
  | .unit, .unit, .unit, N, C, B, ho, hk, hN, hx, hu, fx, fu => by
    obtain ⟨n, rfl⟩ : ∃ n, N = n + 1 := ⟨N - 1, by omega⟩
    refine RE.to (q_fun rfl ?_)
    simp only [encK, Z.encD]
    walk_at "qk"
    rw [List.take_length]
    exact ⟨rfl, rfl⟩
  | .num, .num i, .num j, N, C, B, ho, hk, hN, hx, hu, fx, fu => by
    obtain ⟨n, rfl⟩ : ∃ n, N = n + 1 := ⟨N - 1, by omega⟩
    simp only [kd] at hN
    refine RE.to (q_fun rfl ?_)
    simp only [encK, Z.encD]
    walk_at "qk"
    refine ⟨rfl, RE.eq (plusin_ok (c := .num) (x := .num i) (y := .num j) (B := B) (by simp only [kd]; omega) (by decide) (.num i) (.num j) fx fu) ?_⟩
    walk_at "qk"
    rw [List.take_length]
    exact ⟨rfl, rfl⟩
  | .bag a, .bag r, .bag s, N, C, B, ho, hk, hN, hx, hu, fx, fu => by
    obtain ⟨n, rfl⟩ : ∃ n, N = n + 1 := ⟨N - 1, by omega⟩
    simp only [kd] at hN hk
    refine RE.to (q_fun rfl ?_)
    simp only [encK, Z.encD]
    walk_at "qk"
    refine ⟨rfl, RE.eq (plusin_ok (c := .bag a) (x := .bag r) (y := .bag s) (B := B) (by simp only [kd]; omega) (by simp only [kd]; omega) (Grp.of (k := .bag a) ho hx) (Grp.of (k := .bag a) ho hu) (fits.mono (v := .bag r) (by decide) (Nat.le_refl _) fx) (fits.mono (v := .bag s) (by decide) (Nat.le_refl _) fu)) ?_⟩
    walk_at "qk"
    rw [List.take_length]
    exact ⟨rfl, rfl⟩
  | .pair a b, .pair x y, .pair u v, N, C, B, ho, hk, hN, hx, hu, fx, fu => by
    obtain ⟨n, rfl⟩ : ∃ n, N = n + 1 := ⟨N - 1, by omega⟩
    simp only [kd] at hN hk
    simp only [DK.ok, Bool.and_eq_true] at ho
    refine RE.to (q_fun rfl ?_)
    simp only [encK, Z.encD]
    walk_at "qk"
    refine ⟨rfl, RE.eq (ledin_ok a ho.1 (by omega) (by omega) hx.1 hu.1 fx.1 fu.1) ?_⟩
    walk_at "qk"
    refine ⟨rfl, RE.eq (ledin_ok b ho.2 (by omega) (by omega) hx.2 hu.2 fx.2 fu.2) ?_⟩
    walk_at "qk"
    rw [List.take_length]
    exact ⟨rfl, rfl⟩
  | .either a b, .left x, .right w, N, C, B, ho, hk, hN, hx, hu, fx, fu => by
    obtain ⟨n, rfl⟩ : ∃ n, N = n + 2 := ⟨N - 2, by omega⟩
    refine RE.to (q_fun rfl ?_)
    simp only [encK, Z.encD]
    walk_at "qk"
    refine ⟨rfl, q_fun rfl ?_⟩
    walk_at "qk"
    simp only [List.take_length]
    exact ⟨rfl, trivial⟩
  | .either a b, .right x, .right w, N, C, B, ho, hk, hN, hx, hu, fx, fu => by
    obtain ⟨n, rfl⟩ : ∃ n, N = n + 2 := ⟨N - 2, by omega⟩
    refine RE.to (q_fun rfl ?_)
    simp only [encK, Z.encD]
    walk_at "qk"
    refine ⟨rfl, q_fun rfl ?_⟩
    walk_at "qk"
    simp only [List.take_length]
    exact ⟨rfl, trivial⟩
  | .either a b, .left x, .left (.left u), N, C, B, ho, hk, hN, hx, hu, fx, fu => by
    obtain ⟨n, rfl⟩ : ∃ n, N = n + 2 := ⟨N - 2, by omega⟩
    simp only [kd] at hN hk
    simp only [DK.ok, Bool.and_eq_true] at ho
    refine RE.to (q_fun rfl ?_)
    simp only [encK, Z.encD]
    walk_at "qk"
    refine ⟨rfl, q_fun rfl ?_⟩
    walk_at "qk"
    refine ⟨rfl, RE.eq (sidekL (a := a) (b := b) (x := x) (by omega)) ?_⟩
    walk_at "qk"
    refine ⟨rfl, RE.eq (ledin_ok a ho.1 (by omega) (by omega) hx hu fx fu) ?_⟩
    walk_at "qk"
    simp only [List.take_length]
    exact ⟨rfl, trivial⟩
  | .either a b, .right x, .left (.right u), N, C, B, ho, hk, hN, hx, hu, fx, fu => by
    obtain ⟨n, rfl⟩ : ∃ n, N = n + 2 := ⟨N - 2, by omega⟩
    simp only [kd] at hN hk
    simp only [DK.ok, Bool.and_eq_true] at ho
    refine RE.to (q_fun rfl ?_)
    simp only [encK, Z.encD]
    walk_at "qk"
    refine ⟨rfl, q_fun rfl ?_⟩
    walk_at "qk"
    refine ⟨rfl, RE.eq (sidekR (a := a) (b := b) (x := x) (by omega)) ?_⟩
    walk_at "qk"
    refine ⟨rfl, RE.eq (ledin_ok b ho.2 (by omega) (by omega) hx hu fx fu) ?_⟩
    walk_at "qk"
    simp only [List.take_length]
    exact ⟨rfl, trivial⟩
  | .either a b, .left x, .left (.right u), N, C, B, ho, hk, hN, hx, hu, fx, fu => by
    obtain ⟨n, rfl⟩ : ∃ n, N = n + 2 := ⟨N - 2, by omega⟩
    refine RE.to (q_fun rfl ?_)
    simp only [encK, Z.encD]
    walk_at "qk"
    refine ⟨rfl, q_fun rfl ?_⟩
    walk_at "qk"
    simp only [List.take_length]
    exact ⟨rfl, trivial⟩
  | .either a b, .right x, .left (.left u), N, C, B, ho, hk, hN, hx, hu, fx, fu => by
    obtain ⟨n, rfl⟩ : ∃ n, N = n + 2 := ⟨N - 2, by omega⟩
    refine RE.to (q_fun rfl ?_)
    simp only [encK, Z.encD]
    walk_at "qk"
    refine ⟨rfl, q_fun rfl ?_⟩
    walk_at "qk"
    simp only [List.take_length]
    exact ⟨rfl, trivial⟩
theorem lessin_ok : ∀ (c : DK) {x y : DV} {N : Nat} {C : Cells} {B : Nat}, c.ok = true → kd c ≤ 20 → 2 * kd c + 4 ≤ N → has c x → has c y → fits 50 B x → fits 50 B y → m_less_in N [.d (encK c), .d (encD x), .d (encD y)] C = some (.d (encD (lessD c x y)), C)
  | .unit, .unit, .unit, N, C, B, ho, hk, hN, hx, hu, fx, fu => by
    obtain ⟨n, rfl⟩ : ∃ n, N = n + 1 := ⟨N - 1, by omega⟩
    refine RE.to (q_fun rfl ?_)
    simp only [encK, Z.encD]
    walk_at "qk"
    rw [List.take_length]
    exact ⟨rfl, rfl⟩
  | .num, .num i, .num j, N, C, B, ho, hk, hN, hx, hu, fx, fu => by
    obtain ⟨n, rfl⟩ : ∃ n, N = n + 1 := ⟨N - 1, by omega⟩
    simp only [kd] at hN
    have z := fits_times (M := 1) (n := -1) (by decide) (Grp.num j) fu
    rw [Nat.one_mul] at z
    refine RE.to (q_fun rfl ?_)
    simp only [encK, Z.encD]
    walk_at "qk"
    refine ⟨rfl, RE.eq (timesin_ok (c := .num) (x := .num j) (B := B) (t := -1) (by simp only [kd]; omega) (by decide) (.num j) fu) ?_⟩
    walk_at "qk"
    refine ⟨rfl, RE.eq (plusin_ok (c := .num) (x := .num i) (y := times (-1) (.num j)) (B := B) (by simp only [kd]; omega) (by decide) (.num i) ((Grp.num j).times (-1)) fx z) ?_⟩
    walk_at "qk"
    rw [List.take_length]
    exact ⟨rfl, rfl⟩
  | .bag a, .bag r, .bag s, N, C, B, ho, hk, hN, hx, hu, fx, fu => by
    obtain ⟨n, rfl⟩ : ∃ n, N = n + 1 := ⟨N - 1, by omega⟩
    simp only [kd] at hN hk
    have gu := Grp.of (k := .bag a) ho hu
    have z := fits_times (M := 1) (n := -1) (by decide) gu fu
    rw [Nat.one_mul] at z
    refine RE.to (q_fun rfl ?_)
    simp only [encK, Z.encD]
    walk_at "qk"
    refine ⟨rfl, RE.eq (timesin_ok (c := .bag a) (x := .bag s) (B := B) (t := -1) (by simp only [kd]; omega) (by decide) gu (fits.mono (v := .bag s) (by decide) (Nat.le_refl _) fu)) ?_⟩
    walk_at "qk"
    refine ⟨rfl, RE.eq (plusin_ok (c := .bag a) (x := .bag r) (y := times (-1) (.bag s)) (B := B) (by simp only [kd]; omega) (by simp only [kd]; omega) (Grp.of (k := .bag a) ho hx) (gu.times (-1)) (fits.mono (v := .bag r) (by decide) (Nat.le_refl _) fx) (fits.mono (by decide) (Nat.le_refl _) z)) ?_⟩
    walk_at "qk"
    rw [List.take_length]
    exact ⟨rfl, rfl⟩
  | .pair a b, .pair x y, .pair u v, N, C, B, ho, hk, hN, hx, hu, fx, fu => by
    obtain ⟨n, rfl⟩ : ∃ n, N = n + 1 := ⟨N - 1, by omega⟩
    simp only [kd] at hN hk
    simp only [DK.ok, Bool.and_eq_true] at ho
    refine RE.to (q_fun rfl ?_)
    simp only [encK, Z.encD]
    walk_at "qk"
    refine ⟨rfl, RE.eq (lessin_ok a ho.1 (by omega) (by omega) hx.1 hu.1 fx.1 fu.1) ?_⟩
    walk_at "qk"
    refine ⟨rfl, RE.eq (lessin_ok b ho.2 (by omega) (by omega) hx.2 hu.2 fx.2 fu.2) ?_⟩
    walk_at "qk"
    rw [List.take_length]
    exact ⟨rfl, rfl⟩
  | .either a b, .left x, .left y, N, C, B, ho, hk, hN, hx, hu, fx, fu => by
    obtain ⟨n, rfl⟩ : ∃ n, N = n + 1 := ⟨N - 1, by omega⟩
    simp only [kd] at hN hk
    simp only [DK.ok, Bool.and_eq_true] at ho
    refine RE.to (q_fun rfl ?_)
    simp only [encK, Z.encD]
    walk_at "qk"
    refine ⟨rfl, RE.eq (sidekL (a := a) (b := b) (x := x) (by omega)) ?_⟩
    walk_at "qk"
    refine ⟨rfl, RE.eq (lessin_ok a ho.1 (by omega) (by omega) hx hu fx fu) ?_⟩
    walk_at "qk"
    rw [List.take_length]
    exact ⟨rfl, rfl⟩
  | .either a b, .right x, .right y, N, C, B, ho, hk, hN, hx, hu, fx, fu => by
    obtain ⟨n, rfl⟩ : ∃ n, N = n + 1 := ⟨N - 1, by omega⟩
    simp only [kd] at hN hk
    simp only [DK.ok, Bool.and_eq_true] at ho
    refine RE.to (q_fun rfl ?_)
    simp only [encK, Z.encD]
    walk_at "qk"
    refine ⟨rfl, RE.eq (sidekR (a := a) (b := b) (x := x) (by omega)) ?_⟩
    walk_at "qk"
    refine ⟨rfl, RE.eq (lessin_ok b ho.2 (by omega) (by omega) hx hu fx fu) ?_⟩
    walk_at "qk"
    rw [List.take_length]
    exact ⟨rfl, rfl⟩
  | .either a b, .left x, .right y, N, C, B, ho, hk, hN, hx, hu, fx, fu => by
    obtain ⟨n, rfl⟩ : ∃ n, N = n + 1 := ⟨N - 1, by omega⟩
    refine RE.to (q_fun rfl ?_)
    simp only [encK, Z.encD]
    walk_at "qk"
    rw [List.take_length]
    exact ⟨rfl, rfl⟩
  | .either a b, .right x, .left y, N, C, B, ho, hk, hN, hx, hu, fx, fu => by
    obtain ⟨n, rfl⟩ : ∃ n, N = n + 1 := ⟨N - 1, by omega⟩
    refine RE.to (q_fun rfl ?_)
    simp only [encK, Z.encD]
    walk_at "qk"
    rw [List.take_length]
    exact ⟨rfl, rfl⟩
end N25
end
section
open M
local macro_rules | `(tactic| walk_at "q1") => `(tactic| (first
  | with_reducible refine q_seq ?_ | with_reducible refine q_sif ?_ | with_reducible refine q_asg ?_ | with_reducible refine q_ret ?_ | with_reducible refine q_next ?_ | with_reducible refine q_drop ?_ | with_reducible refine q_for ?_ | with_reducible refine q_par ?_ | with_reducible refine q_par3 ?_
  | ((with_reducible refine' q_var ?k1 ?_); (case k1 => rfl)) | with_reducible refine q_c ?_ | with_reducible refine q_op ?_ | with_reducible refine q_un ?_ | with_reducible refine q_cons ?_ | with_reducible refine q_nil ?_ | with_reducible refine q_cb ?_ | with_reducible refine q_ty ?_
  | with_reducible refine q_test ?_ | with_reducible refine q_if ?_ | with_reducible refine q_tup ?_ | with_reducible refine q_lst ?_ | with_reducible refine q_and ?_ | with_reducible refine q_or ?_ | with_reducible refine q_not ?_ | with_reducible refine q_andV ?_ | with_reducible refine q_orV ?_ | with_reducible refine q_notV ?_
  | with_reducible refine q_call ?_ | with_reducible refine q_callN ?_ | with_reducible refine q_sl ?_ | with_reducible refine q_onone ?_ | with_reducible refine q_osome ?_ | with_reducible refine q_gname ?_ | with_reducible refine q_gcons ?_ | with_reducible refine q_gnil ?_ | with_reducible refine q_gconsM ?_ | with_reducible refine q_gnilM ?_ | with_reducible refine q_gsub ?_ | ((with_reducible refine' q_gtup ?k1 ?_); (case k1 => rfl))
  | with_reducible refine q_leave ?_ | with_reducible refine q_yes ?_ | with_reducible refine q_it ?_ | with_reducible refine q_if0 ?_ | with_reducible refine q_iR1 ?_ | with_reducible refine q_lstC ?_ | with_reducible refine q_tru ?_ | with_reducible refine q_lc ?_
  | with_reducible refine RP.eq paddi ?_ | with_reducible refine RP.eq psubi ?_ | with_reducible refine RP.eq pinti ?_ | with_reducible refine RP.eq pintb ?_ | with_reducible refine RP.eq pabsi ?_ | with_reducible refine RP.eq pnegi ?_ | with_reducible refine RP.eq peqs ?_ | with_reducible refine RP.eq peqi ?_
  | with_reducible refine RP.eq pnes ?_ | with_reducible refine RP.eq pnei ?_ | with_reducible refine RP.eq pgti ?_ | with_reducible refine RP.eq plei ?_ | with_reducible refine RP.eq pgei ?_ | with_reducible refine RP.eq plti ?_ | with_reducible refine RP.eq plent ?_ | with_reducible refine RP.eq plenl ?_
  | with_reducible refine RP.eq psltt ?_ | with_reducible refine RP.eq psltl ?_
  | ((with_reducible refine' RP.eq (pmuli ?k1) ?_); (case k1 => first | (unfold L2.CMul; omega) | (unfold L2.CMul; decide))) | ((with_reducible refine' RP.eq (pmodi ?k1) ?_); (case k1 => first | omega | decide)) | ((with_reducible refine' RP.eq (pfdivi ?k1) ?_); (case k1 => unfold L2.CDiv; omega)) | ((with_reducible refine' RP.eq (pdivmodi ?k1) ?_); (case k1 => unfold L2.CDiv; omega)) | ((with_reducible refine' RP.eq (pdivmodWi ?k1 ?k2) ?_); (case k1 => omega); (case k2 => omega)) | ((with_reducible refine' RP.eq (ppowi ?k1) ?_); (case k1 => unfold L2.CPow; decide))
  | with_reducible refine q_asB ?_ | ((with_reducible refine' q_allD ?k1 ?_); (case k1 => rfl))
  | with_reducible refine Z.r_nt ?_ | with_reducible refine Z.r_nf ?_
  | with_reducible refine RP.eq isi_int_none ?_ | with_reducible refine RP.eq isi_int_bool ?_ | with_reducible refine RP.eq isi_int_int ?_ | with_reducible refine RP.eq isi_int_str ?_ | with_reducible refine RP.eq isi_int_tuple ?_ | with_reducible refine RP.eq isi_int_list ?_ | with_reducible refine RP.eq isi_bool_none ?_ | with_reducible refine RP.eq isi_bool_bool ?_ | with_reducible refine RP.eq isi_bool_int ?_ | with_reducible refine RP.eq isi_bool_str ?_ | with_reducible refine RP.eq isi_bool_tuple ?_ | with_reducible refine RP.eq isi_bool_list ?_ | with_reducible refine RP.eq isi_tuple_none ?_ | with_reducible refine RP.eq isi_tuple_bool ?_ | with_reducible refine RP.eq isi_tuple_int ?_ | with_reducible refine RP.eq isi_tuple_str ?_ | with_reducible refine RP.eq isi_tuple_tuple ?_ | with_reducible refine RP.eq isi_tuple_list ?_ | with_reducible refine RP.eq isi_str_none ?_ | with_reducible refine RP.eq isi_str_bool ?_ | with_reducible refine RP.eq isi_str_int ?_ | with_reducible refine RP.eq isi_str_str ?_ | with_reducible refine RP.eq isi_str_tuple ?_ | with_reducible refine RP.eq isi_str_list ?_ | with_reducible refine RP.eq isi_list_none ?_ | with_reducible refine RP.eq isi_list_bool ?_ | with_reducible refine RP.eq isi_list_int ?_ | with_reducible refine RP.eq isi_list_str ?_ | with_reducible refine RP.eq isi_list_tuple ?_ | with_reducible refine RP.eq isi_list_list ?_
  | with_reducible refine RP.eq isi_int ?_ | with_reducible refine RP.eq isi_bool ?_ | with_reducible refine RP.eq isi_tuple ?_ | with_reducible refine RP.eq isi_str ?_ | with_reducible refine RP.eq isi_list ?_
  | ((with_reducible refine' q_len ?k1 ?_); (case k1 => rfl)) | ((with_reducible refine' RP.eq (paddt ?k1) ?_); (case k1 => exact Nat.le_of_ble_eq_true rfl))
  | ((with_reducible refine' q_lcons ?k1 ?_); (case k1 => rfl)) | ((with_reducible refine' q_lnil ?k1 ?_); (case k1 => rfl)) | with_reducible refine q_tab ?_ | with_reducible refine q_isTab ?_ | with_reducible refine q_noTab ?_ | with_reducible refine q_str1 ?_ | with_reducible refine q_int1 ?_
  | with_reducible refine RP.eq ptuplel ?_
  | with_reducible refine RP.eq pix0 ?_ | with_reducible refine RP.eq pix1 ?_ | with_reducible refine RP.eq pix2 ?_))
local macro_rules | `(tactic| walk_at "qq") => `(tactic| repeat walk_at "q1")
local macro_rules | `(tactic| walk_at "cell") => `(tactic| first | assumption | (apply M.set_at; walk_at "cell"))
local macro_rules | `(tactic| walk_at "qc") => `(tactic| repeat (first
  | walk_at "q1"
  | ((refine' M.cIx ?k1 ?k2 ?_); (case k1 => walk_at "cell"); (case k2 => rfl))
  | ((refine' M.cSet ?k1 ?k2 ?_); (case k1 => walk_at "cell"); (case k2 => rfl))))
local macro_rules | `(tactic| walk_at "ks") => `(tactic| first | (refine M.q_dec (fun hs => absurd hs (by decide +kernel)) (fun _ => ?_)) | (refine M.q_dec (fun _ => ?_) (fun hs => absurd rfl hs)) | (refine M.q_ndec (fun _ => ?_) (fun hs => absurd hs (by decide +kernel))) | (refine M.q_ndec (fun hs => absurd rfl hs) (fun _ => ?_)))
local macro_rules | `(tactic| walk_at "qk") => `(tactic| repeat (first
  | walk_at "q1"
  | ((refine' M.cIx ?k1 ?k2 ?_); (case k1 => walk_at "cell"); (case k2 => rfl))
  | ((refine' M.cSet ?k1 ?k2 ?_); (case k1 => walk_at "cell"); (case k2 => rfl))
  | walk_at "ks"))
namespace N25
open PySem PySem.Spec PyProof.Rows L2 Z M
theorem chkdata_ok (c : DK) {N : Nat} {C : Cells} (hN : kd c + 5 ≤ N) (hi : kd c ≤ 90) (ho : c.ok = true) : m__check_data_kind N [.d (encK c)] C = some (.d .none, C) := by
  obtain ⟨n, rfl⟩ : ∃ n, N = n + 1 := ⟨N - 1, by omega⟩
  refine RE.to (q_fun rfl ?_)
  walk_at "qk"
  refine ⟨rfl, RE.eq (dataK_ok c (by omega) hi ho) ?_⟩
  walk_at "qk"
  exact ⟨rfl, List.take_length⟩
/-- what is checked, one behind the other -/
inductive AllC (k : DK) : List DV → Prop
  | nil : AllC k []
  | cons {x : DV} {xs : List DV} (h : has k x) (f : fits 50 (10 ^ 40) x) (r : AllC k xs) : AllC k (x :: xs)
theorem AllC.mem {k : DK} : ∀ {xs : List DV}, AllC k xs → ∀ x ∈ xs, has k x ∧ fits 50 (10 ^ 40) x
  | _, .nil, _, z => nomatch z
  | _, .cons h f r, x, z => by
    rcases List.mem_cons.mp z with z | z
    · subst z; exact ⟨h, f⟩
    · exact r.mem x z
/-- what the functions are told -/
structure Told (c : DK) : Prop where
  ok : c.ok = true
  deep : kd c ≤ 8
theorem chkall_ok {c : DK} (t : Told c) {xs us : List DV} (hx : AllC c xs) (hu : AllC (dK c) us) {N : Nat} {C : Cells} (hN : 65 ≤ N) : m__check_all N [.d (encK c), .d (.tuple (xs.map Z.encD)), .d (.tuple (us.map Z.encD))] C = some (.d .none, C) := by
  obtain ⟨n, rfl⟩ : ∃ n, N = n + 1 := ⟨N - 1, by omega⟩
  have hd := t.deep
  have z := dK_deep c
  refine RE.to (q_fun rfl ?_)
  walk_at "qk"
  refine ⟨rfl, RE.eq (chkdata_ok c (by omega) (by omega) t.ok) ?_⟩
  walk_at "qk"
  refine q_iT ?_
  walk_at "qk"
  refine ⟨_, rfl, ?_⟩
  refine q_loop (fun i env' C' => (∃ e3 e4, env' = [some (.d (encK c)), some (.d (.tuple (xs.map Z.encD))), some (.d (.tuple (us.map Z.encD))), e3, e4]) ∧ C' = C) ⟨⟨none, none, rfl⟩, rfl⟩ (fun _ _ _ _ => rfl) ?_ ?_
  · rintro i av env' C' hi ⟨⟨e3, e4, rfl⟩, rfl⟩
    obtain ⟨d, hdi, rfl⟩ := map_at hi
    obtain ⟨x, hxi, rfl⟩ := Option.map_eq_some_iff.mp (List.getElem?_map.symm.trans hdi)
    obtain ⟨h1, h2⟩ := hx.mem x (List.mem_of_getElem? hxi)
    walk_at "qk"
    refine ⟨rfl, RE.eq (checkD_ok t.ok (by omega) h1 (by decide) h2 (by omega)) ?_⟩
    walk_at "qk"
    exact ⟨⟨_, _, rfl⟩, rfl⟩
  · rintro env' C' ⟨⟨e3, e4, rfl⟩, rfl⟩
    walk_at "qk"
    refine q_iT ?_
    walk_at "qk"
    refine ⟨_, rfl, ?_⟩
    refine q_loop (fun i env'' C'' => (∃ e3 e4, env'' = [some (.d (encK c)), some (.d (.tuple (xs.map Z.encD))), some (.d (.tuple (us.map Z.encD))), e3, e4]) ∧ C'' = C') ⟨⟨_, _, rfl⟩, rfl⟩ (fun _ _ _ _ => rfl) ?_ ?_
    · rintro i av env' C'' hi ⟨⟨e3, e4, rfl⟩, rfl⟩
      obtain ⟨d, hdi, rfl⟩ := map_at hi
      obtain ⟨x, hxi, rfl⟩ := Option.map_eq_some_iff.mp (List.getElem?_map.symm.trans hdi)
      obtain ⟨h1, h2⟩ := hu.mem x (List.mem_of_getElem? hxi)
      walk_at "qk"
      refine ⟨rfl, RE.eq (kindch_ok c (by omega)) ?_⟩
      walk_at "qk"
      refine ⟨rfl, RE.eq (isof_ok (dK c) (dK_ok t.ok) (by omega) (Z.encD x) (by omega) (tidy_D (by decide) h2)) ?_⟩
      rw [vis_of h1]
      walk_at "qk"
      exact ⟨⟨_, _, rfl⟩, rfl⟩
    · rintro env' C'' ⟨⟨e3, e4, rfl⟩, rfl⟩
      walk_at "qk"
      exact ⟨rfl, List.take_length⟩
theorem chkfit_ok (c : DK) (hk : kd c ≤ 8) {x u : DV} (hx : has c x) (hu : has (dK c) u) (hf : fitD c x u = true) {N : Nat} {C : Cells} (hN : 61 ≤ N) : m__check_fitting N [.d (encK c), .d (encD x), .d (encD u)] C = some (.d .none, C) := by
  obtain ⟨n, rfl⟩ : ∃ n, N = n + 1 := ⟨N - 1, by omega⟩
  refine RE.to (q_fun rfl ?_)
  walk_at "qk"
  refine ⟨rfl, RE.eq (fitsin_ok c (by omega) hx hu) ?_⟩
  rw [hf]
  walk_at "qk"
  exact ⟨rfl, List.take_length⟩
structure Val (c : DK) (x : DV) : Prop where
  has : has c x
  fit : fits 50 (10 ^ 40) x
structure Chg (c : DK) (u : DV) : Prop where
  has : has (dK c) u
  fit : fits 50 (10 ^ 40) u
theorem fits_ok {c : DK} {x u : DV} (t : Told c) (vx : Val c x) (vu : Chg c u) {N : Nat} {C : Cells} (hN : 70 ≤ N) : m_fits N [.d (encK c), .d (encD x), .d (encD u)] C = some (.d (.bool (fitD c x u)), C) := by
  obtain ⟨n, rfl⟩ : ∃ n, N = n + 1 := ⟨N - 1, by omega⟩
  have hd := t.deep
  refine RE.to (q_fun rfl ?_)
  walk_at "qk"
  refine ⟨rfl, RE.eq (chkall_ok t (.cons vx.has vx.fit .nil) (.cons vu.has vu.fit .nil) (by omega)) ?_⟩
  walk_at "qk"
  refine ⟨rfl, RE.eq (fitsin_ok c (by omega) vx.has vu.has) ?_⟩
  refine ⟨_, _, rfl, ?_⟩
  rw [List.take_length]
  exact ⟨rfl, rfl⟩
theorem led_ok {c : DK} {x u : DV} (t : Told c) (vx : Val c x) (vu : Chg c u) {N : Nat} {C : Cells} (hN : 70 ≤ N) : m_led N [.d (encK c), .d (encD x), .d (encD u)] C = some (.d (encD (ledD c x u)), C) := by
  obtain ⟨n, rfl⟩ : ∃ n, N = n + 1 := ⟨N - 1, by omega⟩
  have hd := t.deep
  refine RE.to (q_fun rfl ?_)
  walk_at "qk"
  refine ⟨rfl, RE.eq (chkall_ok t (.cons vx.has vx.fit .nil) (.cons vu.has vu.fit .nil) (by omega)) ?_⟩
  walk_at "qk"
  refine ⟨rfl, RE.eq (ledin_ok c t.ok (by omega) (by omega) vx.has vu.has vx.fit vu.fit) ?_⟩
  refine ⟨_, _, rfl, ?_⟩
  rw [List.take_length]
  exact ⟨rfl, rfl⟩
theorem nothing_ok {c : DK} {x : DV} (t : Told c) (vx : Val c x) {N : Nat} {C : Cells} (hN : 70 ≤ N) : m_nothing N [.d (encK c), .d (encD x)] C = some (.d (encD (lessD c x x)), C) := by
  obtain ⟨n, rfl⟩ : ∃ n, N = n + 1 := ⟨N - 1, by omega⟩
  have hd := t.deep
  refine RE.to (q_fun rfl ?_)
  walk_at "qk"
  refine ⟨rfl, RE.eq (chkall_ok t (.cons vx.has vx.fit .nil) .nil (by omega)) ?_⟩
  walk_at "qk"
  refine ⟨rfl, RE.eq (lessin_ok c t.ok (by omega) (by omega) vx.has vx.has vx.fit vx.fit) ?_⟩
  refine ⟨_, _, rfl, ?_⟩
  rw [List.take_length]
  exact ⟨rfl, rfl⟩
end N25
end
section
open M
local macro_rules | `(tactic| walk_at "q1") => `(tactic| (first
  | with_reducible refine q_seq ?_ | with_reducible refine q_sif ?_ | with_reducible refine q_asg ?_ | with_reducible refine q_ret ?_ | with_reducible refine q_next ?_ | with_reducible refine q_drop ?_ | with_reducible refine q_for ?_ | with_reducible refine q_par ?_ | with_reducible refine q_par3 ?_
  | ((with_reducible refine' q_var ?k1 ?_); (case k1 => rfl)) | with_reducible refine q_c ?_ | with_reducible refine q_op ?_ | with_reducible refine q_un ?_ | with_reducible refine q_cons ?_ | with_reducible refine q_nil ?_ | with_reducible refine q_cb ?_ | with_reducible refine q_ty ?_
  | with_reducible refine q_test ?_ | with_reducible refine q_if ?_ | with_reducible refine q_tup ?_ | with_reducible refine q_lst ?_ | with_reducible refine q_and ?_ | with_reducible refine q_or ?_ | with_reducible refine q_not ?_ | with_reducible refine q_andV ?_ | with_reducible refine q_orV ?_ | with_reducible refine q_notV ?_
  | with_reducible refine q_call ?_ | with_reducible refine q_callN ?_ | with_reducible refine q_sl ?_ | with_reducible refine q_onone ?_ | with_reducible refine q_osome ?_ | with_reducible refine q_gname ?_ | with_reducible refine q_gcons ?_ | with_reducible refine q_gnil ?_ | with_reducible refine q_gconsM ?_ | with_reducible refine q_gnilM ?_ | with_reducible refine q_gsub ?_ | ((with_reducible refine' q_gtup ?k1 ?_); (case k1 => rfl))
  | with_reducible refine q_leave ?_ | with_reducible refine q_yes ?_ | with_reducible refine q_it ?_ | with_reducible refine q_if0 ?_ | with_reducible refine q_iR1 ?_ | with_reducible refine q_lstC ?_ | with_reducible refine q_tru ?_ | with_reducible refine q_lc ?_
  | with_reducible refine RP.eq paddi ?_ | with_reducible refine RP.eq psubi ?_ | with_reducible refine RP.eq pinti ?_ | with_reducible refine RP.eq pintb ?_ | with_reducible refine RP.eq pabsi ?_ | with_reducible refine RP.eq pnegi ?_ | with_reducible refine RP.eq peqs ?_ | with_reducible refine RP.eq peqi ?_
  | with_reducible refine RP.eq pnes ?_ | with_reducible refine RP.eq pnei ?_ | with_reducible refine RP.eq pgti ?_ | with_reducible refine RP.eq plei ?_ | with_reducible refine RP.eq pgei ?_ | with_reducible refine RP.eq plti ?_ | with_reducible refine RP.eq plent ?_ | with_reducible refine RP.eq plenl ?_
  | with_reducible refine RP.eq psltt ?_ | with_reducible refine RP.eq psltl ?_
  | ((with_reducible refine' RP.eq (pmuli ?k1) ?_); (case k1 => first | (unfold L2.CMul; omega) | (unfold L2.CMul; decide))) | ((with_reducible refine' RP.eq (pmodi ?k1) ?_); (case k1 => first | omega | decide)) | ((with_reducible refine' RP.eq (pfdivi ?k1) ?_); (case k1 => unfold L2.CDiv; omega)) | ((with_reducible refine' RP.eq (pdivmodi ?k1) ?_); (case k1 => unfold L2.CDiv; omega)) | ((with_reducible refine' RP.eq (pdivmodWi ?k1 ?k2) ?_); (case k1 => omega); (case k2 => omega)) | ((with_reducible refine' RP.eq (ppowi ?k1) ?_); (case k1 => unfold L2.CPow; decide))
  | with_reducible refine q_asB ?_ | ((with_reducible refine' q_allD ?k1 ?_); (case k1 => rfl))
  | with_reducible refine Z.r_nt ?_ | with_reducible refine Z.r_nf ?_
  | with_reducible refine RP.eq isi_int_none ?_ | with_reducible refine RP.eq isi_int_bool ?_ | with_reducible refine RP.eq isi_int_int ?_ | with_reducible refine RP.eq isi_int_str ?_ | with_reducible refine RP.eq isi_int_tuple ?_ | with_reducible refine RP.eq isi_int_list ?_ | with_reducible refine RP.eq isi_bool_none ?_ | with_reducible refine RP.eq isi_bool_bool ?_ | with_reducible refine RP.eq isi_bool_int ?_ | with_reducible refine RP.eq isi_bool_str ?_ | with_reducible refine RP.eq isi_bool_tuple ?_ | with_reducible refine RP.eq isi_bool_list ?_ | with_reducible refine RP.eq isi_tuple_none ?_ | with_reducible refine RP.eq isi_tuple_bool ?_ | with_reducible refine RP.eq isi_tuple_int ?_ | with_reducible refine RP.eq isi_tuple_str ?_ | with_reducible refine RP.eq isi_tuple_tuple ?_ | with_reducible refine RP.eq isi_tuple_list ?_ | with_reducible refine RP.eq isi_str_none ?_ | with_reducible refine RP.eq isi_str_bool ?_ | with_reducible refine RP.eq isi_str_int ?_ | with_reducible refine RP.eq isi_str_str ?_ | with_reducible refine RP.eq isi_str_tuple ?_ | with_reducible refine RP.eq isi_str_list ?_ | with_reducible refine RP.eq isi_list_none ?_ | with_reducible refine RP.eq isi_list_bool ?_ | with_reducible refine RP.eq isi_list_int ?_ | with_reducible refine RP.eq isi_list_str ?_ | with_reducible refine RP.eq isi_list_tuple ?_ | with_reducible refine RP.eq isi_list_list ?_
  | with_reducible refine RP.eq isi_int ?_ | with_reducible refine RP.eq isi_bool ?_ | with_reducible refine RP.eq isi_tuple ?_ | with_reducible refine RP.eq isi_str ?_ | with_reducible refine RP.eq isi_list ?_
  | ((with_reducible refine' q_len ?k1 ?_); (case k1 => rfl)) | ((with_reducible refine' RP.eq (paddt ?k1) ?_); (case k1 => exact Nat.le_of_ble_eq_true rfl))
  | ((with_reducible refine' q_lcons ?k1 ?_); (case k1 => rfl)) | ((with_reducible refine' q_lnil ?k1 ?_); (case k1 => rfl)) | with_reducible refine q_tab ?_ | with_reducible refine q_isTab ?_ | with_reducible refine q_noTab ?_ | with_reducible refine q_str1 ?_ | with_reducible refine q_int1 ?_
  | with_reducible refine RP.eq ptuplel ?_
  | with_reducible refine RP.eq pix0 ?_ | with_reducible refine RP.eq pix1 ?_ | with_reducible refine RP.eq pix2 ?_))
local macro_rules | `(tactic| walk_at "qq") => `(tactic| repeat walk_at "q1")
local macro_rules | `(tactic| walk_at "cell") => `(tactic| first | assumption | (apply M.set_at; walk_at "cell"))
local macro_rules | `(tactic| walk_at "qc") => `(tactic| repeat (first
  | walk_at "q1"
  | ((refine' M.cIx ?k1 ?k2 ?_); (case k1 => walk_at "cell"); (case k2 => rfl))
  | ((refine' M.cSet ?k1 ?k2 ?_); (case k1 => walk_at "cell"); (case k2 => rfl))))
local macro_rules | `(tactic| walk_at "ks") => `(tactic| first | (refine M.q_dec (fun hs => absurd hs (by decide +kernel)) (fun _ => ?_)) | (refine M.q_dec (fun _ => ?_) (fun hs => absurd rfl hs)) | (refine M.q_ndec (fun _ => ?_) (fun hs => absurd hs (by decide +kernel))) | (refine M.q_ndec (fun hs => absurd rfl hs) (fun _ => ?_)))
local macro_rules | `(tactic| walk_at "qk") => `(tactic| repeat (first
  | walk_at "q1"
  | ((refine' M.cIx ?k1 ?k2 ?_); (case k1 => walk_at "cell"); (case k2 => rfl))
  | ((refine' M.cSet ?k1 ?k2 ?_); (case k1 => walk_at "cell"); (case k2 => rfl))
  | walk_at "ks"))
namespace N25
open PySem PySem.Spec PyProof.Rows L2 Z M
theorem pin_num {C : Cells} : pIn false C (.d (.str "num")) (.d (.tuple [.str "num", .str "bag"])) = some (.bool true) := (pin_strs (ws := ["num", "bag"])).trans (by rw [show (["num", "bag"] : List Str).contains "num" = true by decide +kernel])
theorem pin_bag {C : Cells} : pIn false C (.d (.str "bag")) (.d (.tuple [.str "num", .str "bag"])) = some (.bool true) := (pin_strs (ws := ["num", "bag"])).trans (by rw [show (["num", "bag"] : List Str).contains "bag" = true by decide +kernel])
theorem pin_pair {C : Cells} : pIn false C (.d (.str "pair")) (.d (.tuple [.str "num", .str "bag"])) = some (.bool false) := (pin_strs (ws := ["num", "bag"])).trans (by rw [show (["num", "bag"] : List Str).contains "pair" = false by decide +kernel])
theorem pin_either {C : Cells} : pIn false C (.d (.str "either")) (.d (.tuple [.str "num", .str "bag"])) = some (.bool false) := (pin_strs (ws := ["num", "bag"])).trans (by rw [show (["num", "bag"] : List Str).contains "either" = false by decide +kernel])
end N25
end
section
open M
local macro_rules | `(tactic| walk_at "q1") => `(tactic| (first
  | with_reducible refine q_seq ?_ | with_reducible refine q_sif ?_ | with_reducible refine q_asg ?_ | with_reducible refine q_ret ?_ | with_reducible refine q_next ?_ | with_reducible refine q_drop ?_ | with_reducible refine q_for ?_ | with_reducible refine q_par ?_ | with_reducible refine q_par3 ?_
  | ((with_reducible refine' q_var ?k1 ?_); (case k1 => rfl)) | with_reducible refine q_c ?_ | with_reducible refine q_op ?_ | with_reducible refine q_un ?_ | with_reducible refine q_cons ?_ | with_reducible refine q_nil ?_ | with_reducible refine q_cb ?_ | with_reducible refine q_ty ?_
  | with_reducible refine q_test ?_ | with_reducible refine q_if ?_ | with_reducible refine q_tup ?_ | with_reducible refine q_lst ?_ | with_reducible refine q_and ?_ | with_reducible refine q_or ?_ | with_reducible refine q_not ?_ | with_reducible refine q_andV ?_ | with_reducible refine q_orV ?_ | with_reducible refine q_notV ?_
  | with_reducible refine q_call ?_ | with_reducible refine q_callN ?_ | with_reducible refine q_sl ?_ | with_reducible refine q_onone ?_ | with_reducible refine q_osome ?_ | with_reducible refine q_gname ?_ | with_reducible refine q_gcons ?_ | with_reducible refine q_gnil ?_ | with_reducible refine q_gconsM ?_ | with_reducible refine q_gnilM ?_ | with_reducible refine q_gsub ?_ | ((with_reducible refine' q_gtup ?k1 ?_); (case k1 => rfl))
  | with_reducible refine q_leave ?_ | with_reducible refine q_yes ?_ | with_reducible refine q_it ?_ | with_reducible refine q_if0 ?_ | with_reducible refine q_iR1 ?_ | with_reducible refine q_lstC ?_ | with_reducible refine q_tru ?_ | with_reducible refine q_lc ?_
  | with_reducible refine RP.eq paddi ?_ | with_reducible refine RP.eq psubi ?_ | with_reducible refine RP.eq pinti ?_ | with_reducible refine RP.eq pintb ?_ | with_reducible refine RP.eq pabsi ?_ | with_reducible refine RP.eq pnegi ?_ | with_reducible refine RP.eq peqs ?_ | with_reducible refine RP.eq peqi ?_
  | with_reducible refine RP.eq pnes ?_ | with_reducible refine RP.eq pnei ?_ | with_reducible refine RP.eq pgti ?_ | with_reducible refine RP.eq plei ?_ | with_reducible refine RP.eq pgei ?_ | with_reducible refine RP.eq plti ?_ | with_reducible refine RP.eq plent ?_ | with_reducible refine RP.eq plenl ?_
  | with_reducible refine RP.eq psltt ?_ | with_reducible refine RP.eq psltl ?_
  | ((with_reducible refine' RP.eq (pmuli ?k1) ?_); (case k1 => first | (unfold L2.CMul; omega) | (unfold L2.CMul; decide))) | ((with_reducible refine' RP.eq (pmodi ?k1) ?_); (case k1 => first | omega | decide)) | ((with_reducible refine' RP.eq (pfdivi ?k1) ?_); (case k1 => unfold L2.CDiv; omega)) | ((with_reducible refine' RP.eq (pdivmodi ?k1) ?_); (case k1 => unfold L2.CDiv; omega)) | ((with_reducible refine' RP.eq (pdivmodWi ?k1 ?k2) ?_); (case k1 => omega); (case k2 => omega)) | ((with_reducible refine' RP.eq (ppowi ?k1) ?_); (case k1 => unfold L2.CPow; decide))
  | with_reducible refine q_asB ?_ | ((with_reducible refine' q_allD ?k1 ?_); (case k1 => rfl))
  | with_reducible refine Z.r_nt ?_ | with_reducible refine Z.r_nf ?_
  | with_reducible refine RP.eq isi_int_none ?_ | with_reducible refine RP.eq isi_int_bool ?_ | with_reducible refine RP.eq isi_int_int ?_ | with_reducible refine RP.eq isi_int_str ?_ | with_reducible refine RP.eq isi_int_tuple ?_ | with_reducible refine RP.eq isi_int_list ?_ | with_reducible refine RP.eq isi_bool_none ?_ | with_reducible refine RP.eq isi_bool_bool ?_ | with_reducible refine RP.eq isi_bool_int ?_ | with_reducible refine RP.eq isi_bool_str ?_ | with_reducible refine RP.eq isi_bool_tuple ?_ | with_reducible refine RP.eq isi_bool_list ?_ | with_reducible refine RP.eq isi_tuple_none ?_ | with_reducible refine RP.eq isi_tuple_bool ?_ | with_reducible refine RP.eq isi_tuple_int ?_ | with_reducible refine RP.eq isi_tuple_str ?_ | with_reducible refine RP.eq isi_tuple_tuple ?_ | with_reducible refine RP.eq isi_tuple_list ?_ | with_reducible refine RP.eq isi_str_none ?_ | with_reducible refine RP.eq isi_str_bool ?_ | with_reducible refine RP.eq isi_str_int ?_ | with_reducible refine RP.eq isi_str_str ?_ | with_reducible refine RP.eq isi_str_tuple ?_ | with_reducible refine RP.eq isi_str_list ?_ | with_reducible refine RP.eq isi_list_none ?_ | with_reducible refine RP.eq isi_list_bool ?_ | with_reducible refine RP.eq isi_list_int ?_ | with_reducible refine RP.eq isi_list_str ?_ | with_reducible refine RP.eq isi_list_tuple ?_ | with_reducible refine RP.eq isi_list_list ?_
  | with_reducible refine RP.eq isi_int ?_ | with_reducible refine RP.eq isi_bool ?_ | with_reducible refine RP.eq isi_tuple ?_ | with_reducible refine RP.eq isi_str ?_ | with_reducible refine RP.eq isi_list ?_
  | ((with_reducible refine' q_len ?k1 ?_); (case k1 => rfl)) | ((with_reducible refine' RP.eq (paddt ?k1) ?_); (case k1 => exact Nat.le_of_ble_eq_true rfl))
  | ((with_reducible refine' q_lcons ?k1 ?_); (case k1 => rfl)) | ((with_reducible refine' q_lnil ?k1 ?_); (case k1 => rfl)) | with_reducible refine q_tab ?_ | with_reducible refine q_isTab ?_ | with_reducible refine q_noTab ?_ | with_reducible refine q_str1 ?_ | with_reducible refine q_int1 ?_
  | with_reducible refine RP.eq ptuplel ?_
  | with_reducible refine RP.eq pix0 ?_ | with_reducible refine RP.eq pix1 ?_ | with_reducible refine RP.eq pix2 ?_))
local macro_rules | `(tactic| walk_at "qq") => `(tactic| repeat walk_at "q1")
local macro_rules | `(tactic| walk_at "cell") => `(tactic| first | assumption | (apply M.set_at; walk_at "cell"))
local macro_rules | `(tactic| walk_at "qc") => `(tactic| repeat (first
  | walk_at "q1"
  | ((refine' M.cIx ?k1 ?k2 ?_); (case k1 => walk_at "cell"); (case k2 => rfl))
  | ((refine' M.cSet ?k1 ?k2 ?_); (case k1 => walk_at "cell"); (case k2 => rfl))))
local macro_rules | `(tactic| walk_at "ks") => `(tactic| first | (refine M.q_dec (fun hs => absurd hs (by decide +kernel)) (fun _ => ?_)) | (refine M.q_dec (fun _ => ?_) (fun hs => absurd rfl hs)) | (refine M.q_ndec (fun _ => ?_) (fun hs => absurd hs (by decide +kernel))) | (refine M.q_ndec (fun hs => absurd rfl hs) (fun _ => ?_)))
local macro_rules | `(tactic| walk_at "qk") => `(tactic| repeat (first
  | walk_at "q1"
  | ((refine' M.cIx ?k1 ?k2 ?_); (case k1 => walk_at "cell"); (case k2 => rfl))
  | ((refine' M.cSet ?k1 ?k2 ?_); (case k1 => walk_at "cell"); (case k2 => rfl))
  | walk_at "ks"))
namespace N25
open PySem PySem.Spec PyProof.Rows L2 Z M
theorem lled_ok : ∀ (c : DK) {x u : DV} {N : Nat} {C : Cells} {B : Nat}, c.ok = true → kd c ≤ 8 → kd c + 3 ≤ N → has c x → has (dK c) u → fits 25 B x → fits 25 B u → m__law_led N [.d (encK c), .d (encD x), .d (encD u)] C = some (.d (encD (ledD c x u)), C)
  | .unit, .unit, .unit, N, C, B, ho, hk, hN, hx, hu, fx, fu => by
    obtain ⟨n, rfl⟩ : ∃ n, N = n + 1 := ⟨N - 1, by omega⟩
    refine RE.to (q_fun rfl ?_)
    simp only [encK, Z.encD]
    walk_at "qk"
    rw [List.take_length]
    exact ⟨rfl, rfl⟩
  | .either a b, .left x, .right w, N, C, B, ho, hk, hN, hx, hu, fx, fu => by
    obtain ⟨n, rfl⟩ : ∃ n, N = n + 1 := ⟨N - 1, by omega⟩
    refine RE.to (q_fun rfl ?_)
    simp only [encK, Z.encD]
    walk_at "qk"
    refine RP.eq pin_either ?_
    walk_at "qk"
    rw [List.take_length]
    exact ⟨rfl, rfl⟩
  | .either a b, .right x, .right w, N, C, B, ho, hk, hN, hx, hu, fx, fu => by
    obtain ⟨n, rfl⟩ : ∃ n, N = n + 1 := ⟨N - 1, by omega⟩
    refine RE.to (q_fun rfl ?_)
    simp only [encK, Z.encD]
    walk_at "qk"
    refine RP.eq pin_either ?_
    walk_at "qk"
    rw [List.take_length]
    exact ⟨rfl, rfl⟩
  | .either a b, .left x, .left (.right u), N, C, B, ho, hk, hN, hx, hu, fx, fu => by
    obtain ⟨n, rfl⟩ : ∃ n, N = n + 1 := ⟨N - 1, by omega⟩
    refine RE.to (q_fun rfl ?_)
    simp only [encK, Z.encD]
    walk_at "qk"
    refine RP.eq pin_either ?_
    walk_at "qk"
    rw [List.take_length]
    exact ⟨rfl, rfl⟩
  | .either a b, .right x, .left (.left u), N, C, B, ho, hk, hN, hx, hu, fx, fu => by
    obtain ⟨n, rfl⟩ : ∃ n, N = n + 1 := ⟨N - 1, by omega⟩
    refine RE.to (q_fun rfl ?_)
    simp only [encK, Z.encD]
    walk_at "qk"
    refine RP.eq pin_either ?_
    walk_at "qk"
    rw [List.take_length]
    exact ⟨rfl, rfl⟩
  | .num, .num i, .num j, N, C, B, ho, hk, hN, hx, hu, fx, fu => by
    obtain ⟨n, rfl⟩ : ∃ n, N = n + 1 := ⟨N - 1, by omega⟩
    simp only [kd] at hN
    refine RE.to (q_fun rfl ?_)
    simp only [encK, Z.encD]
    walk_at "qk"
    refine RP.eq pin_num ?_
    walk_at "qk"
    refine ⟨rfl, RE.eq (lplus_ok (c := .num) (x := .num i) (y := .num j) (B := B) (by simp only [kd]; omega) (by decide) (.num i) (.num j) fx fu) ?_⟩
    refine ⟨_, _, rfl, ?_⟩
    rw [List.take_length]
    exact ⟨rfl, rfl⟩
  | .bag a, .bag r, .bag s, N, C, B, ho, hk, hN, hx, hu, fx, fu => by
    obtain ⟨n, rfl⟩ : ∃ n, N = n + 1 := ⟨N - 1, by omega⟩
    simp only [kd] at hN hk
    refine RE.to (q_fun rfl ?_)
    simp only [encK, Z.encD]
    walk_at "qk"
    refine RP.eq pin_bag ?_
    walk_at "qk"
    refine ⟨rfl, RE.eq (lplus_ok (c := .bag a) (x := .bag r) (y := .bag s) (B := B) (by simp only [kd]; omega) (by simp only [kd]; omega) (Grp.of (k := .bag a) ho hx) (Grp.of (k := .bag a) ho hu) fx fu) ?_⟩
    refine ⟨_, _, rfl, ?_⟩
    rw [List.take_length]
    exact ⟨rfl, rfl⟩
  | .pair a b, .pair x y, .pair u v, N, C, B, ho, hk, hN, hx, hu, fx, fu => by
    obtain ⟨n, rfl⟩ : ∃ n, N = n + 1 := ⟨N - 1, by omega⟩
    simp only [kd] at hN hk
    simp only [DK.ok, Bool.and_eq_true] at ho
    refine RE.to (q_fun rfl ?_)
    simp only [encK, Z.encD]
    walk_at "qk"
    refine RP.eq pin_pair ?_
    walk_at "qk"
    refine ⟨rfl, RE.eq (lled_ok a ho.1 (by omega) (by omega) hx.1 hu.1 fx.1 fu.1) ?_⟩
    walk_at "qk"
    refine ⟨rfl, RE.eq (lled_ok b ho.2 (by omega) (by omega) hx.2 hu.2 fx.2 fu.2) ?_⟩
    walk_at "qk"
    rw [List.take_length]
    exact ⟨rfl, rfl⟩
  | .either a b, .left x, .left (.left u), N, C, B, ho, hk, hN, hx, hu, fx, fu => by
    obtain ⟨n, rfl⟩ : ∃ n, N = n + 1 := ⟨N - 1, by omega⟩
    simp only [kd] at hN hk
    simp only [DK.ok, Bool.and_eq_true] at ho
    refine RE.to (q_fun rfl ?_)
    simp only [encK, Z.encD]
    walk_at "qk"
    refine RP.eq pin_either ?_
    walk_at "qk"
    refine ⟨rfl, RE.eq (lled_ok a ho.1 (by omega) (by omega) hx hu fx fu) ?_⟩
    walk_at "qk"
    rw [List.take_length]
    exact ⟨rfl, rfl⟩
  | .either a b, .right x, .left (.right u), N, C, B, ho, hk, hN, hx, hu, fx, fu => by
    obtain ⟨n, rfl⟩ : ∃ n, N = n + 1 := ⟨N - 1, by omega⟩
    simp only [kd] at hN hk
    simp only [DK.ok, Bool.and_eq_true] at ho
    refine RE.to (q_fun rfl ?_)
    simp only [encK, Z.encD]
    walk_at "qk"
    refine RP.eq pin_either ?_
    walk_at "qk"
    refine ⟨rfl, RE.eq (lled_ok b ho.2 (by omega) (by omega) hx hu fx fu) ?_⟩
    walk_at "qk"
    rw [List.take_length]
    exact ⟨rfl, rfl⟩
end N25
end
section
open M
local macro_rules | `(tactic| walk_at "q1") => `(tactic| (first
  | with_reducible refine q_seq ?_ | with_reducible refine q_sif ?_ | with_reducible refine q_asg ?_ | with_reducible refine q_ret ?_ | with_reducible refine q_next ?_ | with_reducible refine q_drop ?_ | with_reducible refine q_for ?_ | with_reducible refine q_par ?_ | with_reducible refine q_par3 ?_
  | ((with_reducible refine' q_var ?k1 ?_); (case k1 => rfl)) | with_reducible refine q_c ?_ | with_reducible refine q_op ?_ | with_reducible refine q_un ?_ | with_reducible refine q_cons ?_ | with_reducible refine q_nil ?_ | with_reducible refine q_cb ?_ | with_reducible refine q_ty ?_
  | with_reducible refine q_test ?_ | with_reducible refine q_if ?_ | with_reducible refine q_tup ?_ | with_reducible refine q_lst ?_ | with_reducible refine q_and ?_ | with_reducible refine q_or ?_ | with_reducible refine q_not ?_ | with_reducible refine q_andV ?_ | with_reducible refine q_orV ?_ | with_reducible refine q_notV ?_
  | with_reducible refine q_call ?_ | with_reducible refine q_callN ?_ | with_reducible refine q_sl ?_ | with_reducible refine q_onone ?_ | with_reducible refine q_osome ?_ | with_reducible refine q_gname ?_ | with_reducible refine q_gcons ?_ | with_reducible refine q_gnil ?_ | with_reducible refine q_gconsM ?_ | with_reducible refine q_gnilM ?_ | with_reducible refine q_gsub ?_ | ((with_reducible refine' q_gtup ?k1 ?_); (case k1 => rfl))
  | with_reducible refine q_leave ?_ | with_reducible refine q_yes ?_ | with_reducible refine q_it ?_ | with_reducible refine q_if0 ?_ | with_reducible refine q_iR1 ?_ | with_reducible refine q_lstC ?_ | with_reducible refine q_tru ?_ | with_reducible refine q_lc ?_
  | with_reducible refine RP.eq paddi ?_ | with_reducible refine RP.eq psubi ?_ | with_reducible refine RP.eq pinti ?_ | with_reducible refine RP.eq pintb ?_ | with_reducible refine RP.eq pabsi ?_ | with_reducible refine RP.eq pnegi ?_ | with_reducible refine RP.eq peqs ?_ | with_reducible refine RP.eq peqi ?_
  | with_reducible refine RP.eq pnes ?_ | with_reducible refine RP.eq pnei ?_ | with_reducible refine RP.eq pgti ?_ | with_reducible refine RP.eq plei ?_ | with_reducible refine RP.eq pgei ?_ | with_reducible refine RP.eq plti ?_ | with_reducible refine RP.eq plent ?_ | with_reducible refine RP.eq plenl ?_
  | with_reducible refine RP.eq psltt ?_ | with_reducible refine RP.eq psltl ?_
  | ((with_reducible refine' RP.eq (pmuli ?k1) ?_); (case k1 => first | (unfold L2.CMul; omega) | (unfold L2.CMul; decide))) | ((with_reducible refine' RP.eq (pmodi ?k1) ?_); (case k1 => first | omega | decide)) | ((with_reducible refine' RP.eq (pfdivi ?k1) ?_); (case k1 => unfold L2.CDiv; omega)) | ((with_reducible refine' RP.eq (pdivmodi ?k1) ?_); (case k1 => unfold L2.CDiv; omega)) | ((with_reducible refine' RP.eq (pdivmodWi ?k1 ?k2) ?_); (case k1 => omega); (case k2 => omega)) | ((with_reducible refine' RP.eq (ppowi ?k1) ?_); (case k1 => unfold L2.CPow; decide))
  | with_reducible refine q_asB ?_ | ((with_reducible refine' q_allD ?k1 ?_); (case k1 => rfl))
  | with_reducible refine Z.r_nt ?_ | with_reducible refine Z.r_nf ?_
  | with_reducible refine RP.eq isi_int_none ?_ | with_reducible refine RP.eq isi_int_bool ?_ | with_reducible refine RP.eq isi_int_int ?_ | with_reducible refine RP.eq isi_int_str ?_ | with_reducible refine RP.eq isi_int_tuple ?_ | with_reducible refine RP.eq isi_int_list ?_ | with_reducible refine RP.eq isi_bool_none ?_ | with_reducible refine RP.eq isi_bool_bool ?_ | with_reducible refine RP.eq isi_bool_int ?_ | with_reducible refine RP.eq isi_bool_str ?_ | with_reducible refine RP.eq isi_bool_tuple ?_ | with_reducible refine RP.eq isi_bool_list ?_ | with_reducible refine RP.eq isi_tuple_none ?_ | with_reducible refine RP.eq isi_tuple_bool ?_ | with_reducible refine RP.eq isi_tuple_int ?_ | with_reducible refine RP.eq isi_tuple_str ?_ | with_reducible refine RP.eq isi_tuple_tuple ?_ | with_reducible refine RP.eq isi_tuple_list ?_ | with_reducible refine RP.eq isi_str_none ?_ | with_reducible refine RP.eq isi_str_bool ?_ | with_reducible refine RP.eq isi_str_int ?_ | with_reducible refine RP.eq isi_str_str ?_ | with_reducible refine RP.eq isi_str_tuple ?_ | with_reducible refine RP.eq isi_str_list ?_ | with_reducible refine RP.eq isi_list_none ?_ | with_reducible refine RP.eq isi_list_bool ?_ | with_reducible refine RP.eq isi_list_int ?_ | with_reducible refine RP.eq isi_list_str ?_ | with_reducible refine RP.eq isi_list_tuple ?_ | with_reducible refine RP.eq isi_list_list ?_
  | with_reducible refine RP.eq isi_int ?_ | with_reducible refine RP.eq isi_bool ?_ | with_reducible refine RP.eq isi_tuple ?_ | with_reducible refine RP.eq isi_str ?_ | with_reducible refine RP.eq isi_list ?_
  | ((with_reducible refine' q_len ?k1 ?_); (case k1 => rfl)) | ((with_reducible refine' RP.eq (paddt ?k1) ?_); (case k1 => exact Nat.le_of_ble_eq_true rfl))
  | ((with_reducible refine' q_lcons ?k1 ?_); (case k1 => rfl)) | ((with_reducible refine' q_lnil ?k1 ?_); (case k1 => rfl)) | with_reducible refine q_tab ?_ | with_reducible refine q_isTab ?_ | with_reducible refine q_noTab ?_ | with_reducible refine q_str1 ?_ | with_reducible refine q_int1 ?_
  | with_reducible refine RP.eq ptuplel ?_
  | with_reducible refine RP.eq pix0 ?_ | with_reducible refine RP.eq pix1 ?_ | with_reducible refine RP.eq pix2 ?_))
local macro_rules | `(tactic| walk_at "qq") => `(tactic| repeat walk_at "q1")
local macro_rules | `(tactic| walk_at "cell") => `(tactic| first | assumption | (apply M.set_at; walk_at "cell"))
local macro_rules | `(tactic| walk_at "qc") => `(tactic| repeat (first
  | walk_at "q1"
  | ((refine' M.cIx ?k1 ?k2 ?_); (case k1 => walk_at "cell"); (case k2 => rfl))
  | ((refine' M.cSet ?k1 ?k2 ?_); (case k1 => walk_at "cell"); (case k2 => rfl))))
local macro_rules | `(tactic| walk_at "ks") => `(tactic| first | (refine M.q_dec (fun hs => absurd hs (by decide +kernel)) (fun _ => ?_)) | (refine M.q_dec (fun _ => ?_) (fun hs => absurd rfl hs)) | (refine M.q_ndec (fun _ => ?_) (fun hs => absurd hs (by decide +kernel))) | (refine M.q_ndec (fun hs => absurd rfl hs) (fun _ => ?_)))
local macro_rules | `(tactic| walk_at "qk") => `(tactic| repeat (first
  | walk_at "q1"
  | ((refine' M.cIx ?k1 ?k2 ?_); (case k1 => walk_at "cell"); (case k2 => rfl))
  | ((refine' M.cSet ?k1 ?k2 ?_); (case k1 => walk_at "cell"); (case k2 => rfl))
  | walk_at "ks"))
namespace N25
open PySem PySem.Spec PyProof.Rows L2 Z M
theorem lless_ok : ∀ (c : DK) {x y : DV} {N : Nat} {C : Cells} {B : Nat}, c.ok = true → kd c ≤ 8 → kd c + 3 ≤ N → has c x → has c y → fits 25 B x → fits 25 B y → m__law_less N [.d (encK c), .d (encD x), .d (encD y)] C = some (.d (encD (lessD c x y)), C)
  | .unit, .unit, .unit, N, C, B, ho, hk, hN, hx, hu, fx, fu => by
    obtain ⟨n, rfl⟩ : ∃ n, N = n + 1 := ⟨N - 1, by omega⟩
    refine RE.to (q_fun rfl ?_)
    simp only [encK, Z.encD]
    walk_at "qk"
    rw [List.take_length]
    exact ⟨rfl, rfl⟩
  | .either a b, .left x, .right w, N, C, B, ho, hk, hN, hx, hu, fx, fu => by
    obtain ⟨n, rfl⟩ : ∃ n, N = n + 1 := ⟨N - 1, by omega⟩
    refine RE.to (q_fun rfl ?_)
    simp only [encK, Z.encD]
    walk_at "qk"
    refine RP.eq pin_either ?_
    walk_at "qk"
    rw [List.take_length]
    exact ⟨rfl, rfl⟩
  | .either a b, .right x, .left w, N, C, B, ho, hk, hN, hx, hu, fx, fu => by
    obtain ⟨n, rfl⟩ : ∃ n, N = n + 1 := ⟨N - 1, by omega⟩
    refine RE.to (q_fun rfl ?_)
    simp only [encK, Z.encD]
    walk_at "qk"
    refine RP.eq pin_either ?_
    walk_at "qk"
    rw [List.take_length]
    exact ⟨rfl, rfl⟩
  | .num, .num i, .num j, N, C, B, ho, hk, hN, hx, hu, fx, fu => by
    obtain ⟨n, rfl⟩ : ∃ n, N = n + 1 := ⟨N - 1, by omega⟩
    simp only [kd] at hN
    have z := fits_times (M := 1) (n := -1) (by decide) (Grp.num j) fu
    rw [Nat.one_mul] at z
    refine RE.to (q_fun rfl ?_)
    simp only [encK, Z.encD]
    walk_at "qk"
    refine RP.eq pin_num ?_
    walk_at "qk"
    refine ⟨rfl, RE.eq (lmany_ok (c := (.num)) (x := (.num j)) (B := B) (t := -1) (by simp only [kd]; omega) (by simp only [kd]; omega) (by decide) (Grp.num j) fu) ?_⟩
    walk_at "qk"
    refine ⟨rfl, RE.eq (lplus_ok (c := (.num)) (x := (.num i)) (y := times (-1) (.num j)) (B := B) (by simp only [kd]; omega) (by simp only [kd]; omega) (Grp.num i) ((Grp.num j).times (-1)) fx z) ?_⟩
    refine ⟨_, _, rfl, ?_⟩
    rw [List.take_length]
    exact ⟨rfl, rfl⟩
  | .bag a, .bag r, .bag s, N, C, B, ho, hk, hN, hx, hu, fx, fu => by
    obtain ⟨n, rfl⟩ : ∃ n, N = n + 1 := ⟨N - 1, by omega⟩
    simp only [kd] at hN hk
    have z := fits_times (M := 1) (n := -1) (by decide) (Grp.of (k := .bag a) ho hu) fu
    rw [Nat.one_mul] at z
    refine RE.to (q_fun rfl ?_)
    simp only [encK, Z.encD]
    walk_at "qk"
    refine RP.eq pin_bag ?_
    walk_at "qk"
    refine ⟨rfl, RE.eq (lmany_ok (c := (.bag a)) (x := (.bag s)) (B := B) (t := -1) (by simp only [kd]; omega) (by simp only [kd]; omega) (by decide) (Grp.of (k := .bag a) ho hu) fu) ?_⟩
    walk_at "qk"
    refine ⟨rfl, RE.eq (lplus_ok (c := (.bag a)) (x := (.bag r)) (y := times (-1) (.bag s)) (B := B) (by simp only [kd]; omega) (by simp only [kd]; omega) (Grp.of (k := .bag a) ho hx) ((Grp.of (k := .bag a) ho hu).times (-1)) fx z) ?_⟩
    refine ⟨_, _, rfl, ?_⟩
    rw [List.take_length]
    exact ⟨rfl, rfl⟩
  | .pair a b, .pair x y, .pair u v, N, C, B, ho, hk, hN, hx, hu, fx, fu => by
    obtain ⟨n, rfl⟩ : ∃ n, N = n + 1 := ⟨N - 1, by omega⟩
    simp only [kd] at hN hk
    simp only [DK.ok, Bool.and_eq_true] at ho
    refine RE.to (q_fun rfl ?_)
    simp only [encK, Z.encD]
    walk_at "qk"
    refine RP.eq pin_pair ?_
    walk_at "qk"
    refine ⟨rfl, RE.eq (lless_ok a ho.1 (by omega) (by omega) hx.1 hu.1 fx.1 fu.1) ?_⟩
    walk_at "qk"
    refine ⟨rfl, RE.eq (lless_ok b ho.2 (by omega) (by omega) hx.2 hu.2 fx.2 fu.2) ?_⟩
    walk_at "qk"
    rw [List.take_length]
    exact ⟨rfl, rfl⟩
  | .either a b, .left x, .left y, N, C, B, ho, hk, hN, hx, hu, fx, fu => by
    obtain ⟨n, rfl⟩ : ∃ n, N = n + 1 := ⟨N - 1, by omega⟩
    simp only [kd] at hN hk
    simp only [DK.ok, Bool.and_eq_true] at ho
    refine RE.to (q_fun rfl ?_)
    simp only [encK, Z.encD]
    walk_at "qk"
    refine RP.eq pin_either ?_
    walk_at "qk"
    refine ⟨rfl, RE.eq (lless_ok a ho.1 (by omega) (by omega) hx hu fx fu) ?_⟩
    walk_at "qk"
    rw [List.take_length]
    exact ⟨rfl, rfl⟩
  | .either a b, .right x, .right y, N, C, B, ho, hk, hN, hx, hu, fx, fu => by
    obtain ⟨n, rfl⟩ : ∃ n, N = n + 1 := ⟨N - 1, by omega⟩
    simp only [kd] at hN hk
    simp only [DK.ok, Bool.and_eq_true] at ho
    refine RE.to (q_fun rfl ?_)
    simp only [encK, Z.encD]
    walk_at "qk"
    refine RP.eq pin_either ?_
    walk_at "qk"
    refine ⟨rfl, RE.eq (lless_ok b ho.2 (by omega) (by omega) hx hu fx fu) ?_⟩
    walk_at "qk"
    rw [List.take_length]
    exact ⟨rfl, rfl⟩
end N25
end
section
open M
local macro_rules | `(tactic| walk_at "q1") => `(tactic| (first
  | with_reducible refine q_seq ?_ | with_reducible refine q_sif ?_ | with_reducible refine q_asg ?_ | with_reducible refine q_ret ?_ | with_reducible refine q_next ?_ | with_reducible refine q_drop ?_ | with_reducible refine q_for ?_ | with_reducible refine q_par ?_ | with_reducible refine q_par3 ?_
  | ((with_reducible refine' q_var ?k1 ?_); (case k1 => rfl)) | with_reducible refine q_c ?_ | with_reducible refine q_op ?_ | with_reducible refine q_un ?_ | with_reducible refine q_cons ?_ | with_reducible refine q_nil ?_ | with_reducible refine q_cb ?_ | with_reducible refine q_ty ?_
  | with_reducible refine q_test ?_ | with_reducible refine q_if ?_ | with_reducible refine q_tup ?_ | with_reducible refine q_lst ?_ | with_reducible refine q_and ?_ | with_reducible refine q_or ?_ | with_reducible refine q_not ?_ | with_reducible refine q_andV ?_ | with_reducible refine q_orV ?_ | with_reducible refine q_notV ?_
  | with_reducible refine q_call ?_ | with_reducible refine q_callN ?_ | with_reducible refine q_sl ?_ | with_reducible refine q_onone ?_ | with_reducible refine q_osome ?_ | with_reducible refine q_gname ?_ | with_reducible refine q_gcons ?_ | with_reducible refine q_gnil ?_ | with_reducible refine q_gconsM ?_ | with_reducible refine q_gnilM ?_ | with_reducible refine q_gsub ?_ | ((with_reducible refine' q_gtup ?k1 ?_); (case k1 => rfl))
  | with_reducible refine q_leave ?_ | with_reducible refine q_yes ?_ | with_reducible refine q_it ?_ | with_reducible refine q_if0 ?_ | with_reducible refine q_iR1 ?_ | with_reducible refine q_lstC ?_ | with_reducible refine q_tru ?_ | with_reducible refine q_lc ?_
  | with_reducible refine RP.eq paddi ?_ | with_reducible refine RP.eq psubi ?_ | with_reducible refine RP.eq pinti ?_ | with_reducible refine RP.eq pintb ?_ | with_reducible refine RP.eq pabsi ?_ | with_reducible refine RP.eq pnegi ?_ | with_reducible refine RP.eq peqs ?_ | with_reducible refine RP.eq peqi ?_
  | with_reducible refine RP.eq pnes ?_ | with_reducible refine RP.eq pnei ?_ | with_reducible refine RP.eq pgti ?_ | with_reducible refine RP.eq plei ?_ | with_reducible refine RP.eq pgei ?_ | with_reducible refine RP.eq plti ?_ | with_reducible refine RP.eq plent ?_ | with_reducible refine RP.eq plenl ?_
  | with_reducible refine RP.eq psltt ?_ | with_reducible refine RP.eq psltl ?_
  | ((with_reducible refine' RP.eq (pmuli ?k1) ?_); (case k1 => first | (unfold L2.CMul; omega) | (unfold L2.CMul; decide))) | ((with_reducible refine' RP.eq (pmodi ?k1) ?_); (case k1 => first | omega | decide)) | ((with_reducible refine' RP.eq (pfdivi ?k1) ?_); (case k1 => unfold L2.CDiv; omega)) | ((with_reducible refine' RP.eq (pdivmodi ?k1) ?_); (case k1 => unfold L2.CDiv; omega)) | ((with_reducible refine' RP.eq (pdivmodWi ?k1 ?k2) ?_); (case k1 => omega); (case k2 => omega)) | ((with_reducible refine' RP.eq (ppowi ?k1) ?_); (case k1 => unfold L2.CPow; decide))
  | with_reducible refine q_asB ?_ | ((with_reducible refine' q_allD ?k1 ?_); (case k1 => rfl))
  | with_reducible refine Z.r_nt ?_ | with_reducible refine Z.r_nf ?_
  | with_reducible refine RP.eq isi_int_none ?_ | with_reducible refine RP.eq isi_int_bool ?_ | with_reducible refine RP.eq isi_int_int ?_ | with_reducible refine RP.eq isi_int_str ?_ | with_reducible refine RP.eq isi_int_tuple ?_ | with_reducible refine RP.eq isi_int_list ?_ | with_reducible refine RP.eq isi_bool_none ?_ | with_reducible refine RP.eq isi_bool_bool ?_ | with_reducible refine RP.eq isi_bool_int ?_ | with_reducible refine RP.eq isi_bool_str ?_ | with_reducible refine RP.eq isi_bool_tuple ?_ | with_reducible refine RP.eq isi_bool_list ?_ | with_reducible refine RP.eq isi_tuple_none ?_ | with_reducible refine RP.eq isi_tuple_bool ?_ | with_reducible refine RP.eq isi_tuple_int ?_ | with_reducible refine RP.eq isi_tuple_str ?_ | with_reducible refine RP.eq isi_tuple_tuple ?_ | with_reducible refine RP.eq isi_tuple_list ?_ | with_reducible refine RP.eq isi_str_none ?_ | with_reducible refine RP.eq isi_str_bool ?_ | with_reducible refine RP.eq isi_str_int ?_ | with_reducible refine RP.eq isi_str_str ?_ | with_reducible refine RP.eq isi_str_tuple ?_ | with_reducible refine RP.eq isi_str_list ?_ | with_reducible refine RP.eq isi_list_none ?_ | with_reducible refine RP.eq isi_list_bool ?_ | with_reducible refine RP.eq isi_list_int ?_ | with_reducible refine RP.eq isi_list_str ?_ | with_reducible refine RP.eq isi_list_tuple ?_ | with_reducible refine RP.eq isi_list_list ?_
  | with_reducible refine RP.eq isi_int ?_ | with_reducible refine RP.eq isi_bool ?_ | with_reducible refine RP.eq isi_tuple ?_ | with_reducible refine RP.eq isi_str ?_ | with_reducible refine RP.eq isi_list ?_
  | ((with_reducible refine' q_len ?k1 ?_); (case k1 => rfl)) | ((with_reducible refine' RP.eq (paddt ?k1) ?_); (case k1 => exact Nat.le_of_ble_eq_true rfl))
  | ((with_reducible refine' q_lcons ?k1 ?_); (case k1 => rfl)) | ((with_reducible refine' q_lnil ?k1 ?_); (case k1 => rfl)) | with_reducible refine q_tab ?_ | with_reducible refine q_isTab ?_ | with_reducible refine q_noTab ?_ | with_reducible refine q_str1 ?_ | with_reducible refine q_int1 ?_
  | with_reducible refine RP.eq ptuplel ?_
  | with_reducible refine RP.eq pix0 ?_ | with_reducible refine RP.eq pix1 ?_ | with_reducible refine RP.eq pix2 ?_))
local macro_rules | `(tactic| walk_at "qq") => `(tactic| repeat walk_at "q1")
local macro_rules | `(tactic| walk_at "cell") => `(tactic| first | assumption | (apply M.set_at; walk_at "cell"))
local macro_rules | `(tactic| walk_at "qc") => `(tactic| repeat (first
  | walk_at "q1"
  | ((refine' M.cIx ?k1 ?k2 ?_); (case k1 => walk_at "cell"); (case k2 => rfl))
  | ((refine' M.cSet ?k1 ?k2 ?_); (case k1 => walk_at "cell"); (case k2 => rfl))))
local macro_rules | `(tactic| walk_at "ks") => `(tactic| first | (refine M.q_dec (fun hs => absurd hs (by decide +kernel)) (fun _ => ?_)) | (refine M.q_dec (fun _ => ?_) (fun hs => absurd rfl hs)) | (refine M.q_ndec (fun _ => ?_) (fun hs => absurd hs (by decide +kernel))) | (refine M.q_ndec (fun hs => absurd rfl hs) (fun _ => ?_)))
local macro_rules | `(tactic| walk_at "qk") => `(tactic| repeat (first
  | walk_at "q1"
  | ((refine' M.cIx ?k1 ?k2 ?_); (case k1 => walk_at "cell"); (case k2 => rfl))
  | ((refine' M.cSet ?k1 ?k2 ?_); (case k1 => walk_at "cell"); (case k2 => rfl))
  | walk_at "ks"))
namespace N25
open PySem PySem.Spec PyProof.Rows L2 Z M
theorem data_ok : ∀ (m : Nat) {N j : Nat} {C : Cells} {d : Int}, N25.WellC j C → 0 ≤ d → d.toNat ≤ m → m + 3 ≤ N → RE (m__law_data_kind N [.c j, .d (.int d)] C) fun v C' => ∃ c : DK, v = .d (encK c) ∧ c.ok = true ∧ kd c ≤ d.toNat + 1 ∧ N25.GoC j C C' := by
  intro m
  induction m with
  | zero =>
    intro N j C d hw h0 hm hN
    obtain ⟨n, rfl⟩ : ∃ n, N = n + 1 := ⟨N - 1, by omega⟩
    refine q_fun rfl ?_
    walk_at "qc"
    refine ⟨rfl, (draw' (by omega) hw (by decide) (by decide)).mono ?_⟩
    rintro _ C1 ⟨r, rfl, r0, r1, g1⟩
    walk_at "qc"
    refine q_dec (fun hd => ?_) (fun hd => absurd (by omega) hd)
    walk_at "qc"
    refine ⟨rfl, (plain_ok d.toNat g1.1 h0 (Nat.le_refl _) (by omega)).mono ?_⟩
    rintro _ C2 ⟨a, rfl, ha, ka, g2⟩
    have g := g1.trans g2
    refine ⟨_, _, rfl, a, rfl, DK.plain_ok ha, ka, ?_⟩
    rw [g.take]
    exact g
  | succ m ih =>
    intro N j C d hw h0 hm hN
    obtain ⟨n, rfl⟩ : ∃ n, N = n + 1 := ⟨N - 1, by omega⟩
    refine q_fun rfl ?_
    walk_at "qc"
    refine ⟨rfl, (draw' (by omega) hw (by decide) (by decide)).mono ?_⟩
    rintro _ C1 ⟨r, rfl, r0, r1, g1⟩
    walk_at "qc"
    refine q_dec (fun hd => ?_) (fun hd => ?_)
    · walk_at "qc"
      refine ⟨rfl, (plain_ok d.toNat g1.1 h0 (Nat.le_refl _) (by omega)).mono ?_⟩
      rintro _ C2 ⟨a, rfl, ha, ka, g2⟩
      have g := g1.trans g2
      refine ⟨_, _, rfl, a, rfl, DK.plain_ok ha, ka, ?_⟩
      rw [g.take]
      exact g
    · walk_at "qc"
      refine q_dec (fun hd2 => ?_) (fun hd2 => ?_)
      · walk_at "qc"
        refine ⟨rfl, (plain_ok d.toNat g1.1 h0 (Nat.le_refl _) (by omega)).mono ?_⟩
        rintro _ C2 ⟨a, rfl, ha, ka, g2⟩
        have g := g1.trans g2
        refine ⟨_, _, rfl, a, rfl, DK.plain_ok ha, ka, ?_⟩
        rw [g.take]
        exact g
      · walk_at "qc"
        refine q_dec (fun h4 => ?_) (fun h4 => ?_)
        · walk_at "qc"
          refine ⟨rfl, (plain_ok (d - 1).toNat g1.1 (by omega) (Nat.le_refl _) (by omega)).mono ?_⟩
          rintro _ C2 ⟨a, rfl, ha, ka, g2⟩
          walk_at "qc"
          have g := g1.trans g2
          rw [g.take]
          exact ⟨.bag a, rfl, ha, by simp only [kd]; omega, g⟩
        · walk_at "qc"
          refine ⟨rfl, (ih g1.1 (by omega) (by omega) (by omega)).mono ?_⟩
          rintro _ C2 ⟨a, rfl, ha, ka, g2⟩
          walk_at "qc"
          refine q_dec (fun h6 => ?_) (fun h6 => ?_)
          · walk_at "qc"
            refine ⟨rfl, (ih g2.1 (by omega) (by omega) (by omega)).mono ?_⟩
            rintro _ C3 ⟨b, rfl, hb, kb, g3⟩
            walk_at "qc"
            have g := (g1.trans g2).trans g3
            rw [g.take]
            exact ⟨.pair a b, rfl, by simp only [DK.ok, ha, hb, Bool.and_self], by simp only [kd]; omega, g⟩
          · walk_at "qc"
            refine ⟨rfl, (ih g2.1 (by omega) (by omega) (by omega)).mono ?_⟩
            rintro _ C3 ⟨b, rfl, hb, kb, g3⟩
            walk_at "qc"
            have g := (g1.trans g2).trans g3
            rw [g.take]
            exact ⟨.either a b, rfl, by simp only [DK.ok, ha, hb, Bool.and_self], by simp only [kd]; omega, g⟩
end N25
end
section
open M
local macro_rules | `(tactic| walk_at "q1") => `(tactic| (first
  | with_reducible refine q_seq ?_ | with_reducible refine q_sif ?_ | with_reducible refine q_asg ?_ | with_reducible refine q_ret ?_ | with_reducible refine q_next ?_ | with_reducible refine q_drop ?_ | with_reducible refine q_for ?_ | with_reducible refine q_par ?_ | with_reducible refine q_par3 ?_
  | ((with_reducible refine' q_var ?k1 ?_); (case k1 => rfl)) | with_reducible refine q_c ?_ | with_reducible refine q_op ?_ | with_reducible refine q_un ?_ | with_reducible refine q_cons ?_ | with_reducible refine q_nil ?_ | with_reducible refine q_cb ?_ | with_reducible refine q_ty ?_
  | with_reducible refine q_test ?_ | with_reducible refine q_if ?_ | with_reducible refine q_tup ?_ | with_reducible refine q_lst ?_ | with_reducible refine q_and ?_ | with_reducible refine q_or ?_ | with_reducible refine q_not ?_ | with_reducible refine q_andV ?_ | with_reducible refine q_orV ?_ | with_reducible refine q_notV ?_
  | with_reducible refine q_call ?_ | with_reducible refine q_callN ?_ | with_reducible refine q_sl ?_ | with_reducible refine q_onone ?_ | with_reducible refine q_osome ?_ | with_reducible refine q_gname ?_ | with_reducible refine q_gcons ?_ | with_reducible refine q_gnil ?_ | with_reducible refine q_gconsM ?_ | with_reducible refine q_gnilM ?_ | with_reducible refine q_gsub ?_ | ((with_reducible refine' q_gtup ?k1 ?_); (case k1 => rfl))
  | with_reducible refine q_leave ?_ | with_reducible refine q_yes ?_ | with_reducible refine q_it ?_ | with_reducible refine q_if0 ?_ | with_reducible refine q_iR1 ?_ | with_reducible refine q_lstC ?_ | with_reducible refine q_tru ?_ | with_reducible refine q_lc ?_
  | with_reducible refine RP.eq paddi ?_ | with_reducible refine RP.eq psubi ?_ | with_reducible refine RP.eq pinti ?_ | with_reducible refine RP.eq pintb ?_ | with_reducible refine RP.eq pabsi ?_ | with_reducible refine RP.eq pnegi ?_ | with_reducible refine RP.eq peqs ?_ | with_reducible refine RP.eq peqi ?_
  | with_reducible refine RP.eq pnes ?_ | with_reducible refine RP.eq pnei ?_ | with_reducible refine RP.eq pgti ?_ | with_reducible refine RP.eq plei ?_ | with_reducible refine RP.eq pgei ?_ | with_reducible refine RP.eq plti ?_ | with_reducible refine RP.eq plent ?_ | with_reducible refine RP.eq plenl ?_
  | with_reducible refine RP.eq psltt ?_ | with_reducible refine RP.eq psltl ?_
  | ((with_reducible refine' RP.eq (pmuli ?k1) ?_); (case k1 => first | (unfold L2.CMul; omega) | (unfold L2.CMul; decide))) | ((with_reducible refine' RP.eq (pmodi ?k1) ?_); (case k1 => first | omega | decide)) | ((with_reducible refine' RP.eq (pfdivi ?k1) ?_); (case k1 => unfold L2.CDiv; omega)) | ((with_reducible refine' RP.eq (pdivmodi ?k1) ?_); (case k1 => unfold L2.CDiv; omega)) | ((with_reducible refine' RP.eq (pdivmodWi ?k1 ?k2) ?_); (case k1 => omega); (case k2 => omega)) | ((with_reducible refine' RP.eq (ppowi ?k1) ?_); (case k1 => unfold L2.CPow; decide))
  | with_reducible refine q_asB ?_ | ((with_reducible refine' q_allD ?k1 ?_); (case k1 => rfl))
  | with_reducible refine Z.r_nt ?_ | with_reducible refine Z.r_nf ?_
  | with_reducible refine RP.eq isi_int_none ?_ | with_reducible refine RP.eq isi_int_bool ?_ | with_reducible refine RP.eq isi_int_int ?_ | with_reducible refine RP.eq isi_int_str ?_ | with_reducible refine RP.eq isi_int_tuple ?_ | with_reducible refine RP.eq isi_int_list ?_ | with_reducible refine RP.eq isi_bool_none ?_ | with_reducible refine RP.eq isi_bool_bool ?_ | with_reducible refine RP.eq isi_bool_int ?_ | with_reducible refine RP.eq isi_bool_str ?_ | with_reducible refine RP.eq isi_bool_tuple ?_ | with_reducible refine RP.eq isi_bool_list ?_ | with_reducible refine RP.eq isi_tuple_none ?_ | with_reducible refine RP.eq isi_tuple_bool ?_ | with_reducible refine RP.eq isi_tuple_int ?_ | with_reducible refine RP.eq isi_tuple_str ?_ | with_reducible refine RP.eq isi_tuple_tuple ?_ | with_reducible refine RP.eq isi_tuple_list ?_ | with_reducible refine RP.eq isi_str_none ?_ | with_reducible refine RP.eq isi_str_bool ?_ | with_reducible refine RP.eq isi_str_int ?_ | with_reducible refine RP.eq isi_str_str ?_ | with_reducible refine RP.eq isi_str_tuple ?_ | with_reducible refine RP.eq isi_str_list ?_ | with_reducible refine RP.eq isi_list_none ?_ | with_reducible refine RP.eq isi_list_bool ?_ | with_reducible refine RP.eq isi_list_int ?_ | with_reducible refine RP.eq isi_list_str ?_ | with_reducible refine RP.eq isi_list_tuple ?_ | with_reducible refine RP.eq isi_list_list ?_
  | with_reducible refine RP.eq isi_int ?_ | with_reducible refine RP.eq isi_bool ?_ | with_reducible refine RP.eq isi_tuple ?_ | with_reducible refine RP.eq isi_str ?_ | with_reducible refine RP.eq isi_list ?_
  | ((with_reducible refine' q_len ?k1 ?_); (case k1 => rfl)) | ((with_reducible refine' RP.eq (paddt ?k1) ?_); (case k1 => exact Nat.le_of_ble_eq_true rfl))
  | ((with_reducible refine' q_lcons ?k1 ?_); (case k1 => rfl)) | ((with_reducible refine' q_lnil ?k1 ?_); (case k1 => rfl)) | with_reducible refine q_tab ?_ | with_reducible refine q_isTab ?_ | with_reducible refine q_noTab ?_ | with_reducible refine q_str1 ?_ | with_reducible refine q_int1 ?_
  | with_reducible refine RP.eq ptuplel ?_
  | with_reducible refine RP.eq pix0 ?_ | with_reducible refine RP.eq pix1 ?_ | with_reducible refine RP.eq pix2 ?_))
local macro_rules | `(tactic| walk_at "qq") => `(tactic| repeat walk_at "q1")
local macro_rules | `(tactic| walk_at "cell") => `(tactic| first | assumption | (apply M.set_at; walk_at "cell"))
local macro_rules | `(tactic| walk_at "qc") => `(tactic| repeat (first
  | walk_at "q1"
  | ((refine' M.cIx ?k1 ?k2 ?_); (case k1 => walk_at "cell"); (case k2 => rfl))
  | ((refine' M.cSet ?k1 ?k2 ?_); (case k1 => walk_at "cell"); (case k2 => rfl))))
local macro_rules | `(tactic| walk_at "ks") => `(tactic| first | (refine M.q_dec (fun hs => absurd hs (by decide +kernel)) (fun _ => ?_)) | (refine M.q_dec (fun _ => ?_) (fun hs => absurd rfl hs)) | (refine M.q_ndec (fun _ => ?_) (fun hs => absurd hs (by decide +kernel))) | (refine M.q_ndec (fun hs => absurd rfl hs) (fun _ => ?_)))
local macro_rules | `(tactic| walk_at "qk") => `(tactic| repeat (first
  | walk_at "q1"
  | ((refine' M.cIx ?k1 ?k2 ?_); (case k1 => walk_at "cell"); (case k2 => rfl))
  | ((refine' M.cSet ?k1 ?k2 ?_); (case k1 => walk_at "cell"); (case k2 => rfl))
  | walk_at "ks"))
namespace N25
open PySem PySem.Spec PyProof.Rows L2 Z M
structure RB (R B : Nat) : Prop where
  r : 4 ≤ R
  b : 10 ^ 20 ≤ B
theorem rb4 : RB 4 (10 ^ 20) := ⟨Nat.le_refl _, Nat.le_refl _⟩
theorem change_ok {R B : Nat} (hRB : RB R B) : ∀ (c : DK) {x : DV} {N j : Nat} {C : Cells}, has c x → fits R B x → N25.WellC j C → c.ok = true → kd c ≤ 8 → kd c + 4 ≤ N →
    RE (m__law_change N [.c j, .d (encK c), .d (encD x)] C) fun v C' => ∃ u, v = .d (encD u) ∧ has (dK c) u ∧ fits R B u ∧ fitD c x u = true ∧ N25.GoC j C C'
  | .unit, .unit, N, j, C, hx, fx, hw, ho, hk, hN => by
    obtain ⟨n, rfl⟩ : ∃ n, N = n + 1 := ⟨N - 1, by omega⟩
    simp only [kd] at hN
    refine q_fun rfl ?_
    simp only [encK, Z.encD]
    walk_at "qk"
    refine ⟨rfl, (value_ok .unit hw rfl (by decide) (by simp only [kd]; omega)).mono ?_⟩
    rintro _ C1 ⟨u, rfl, hu, fu, g⟩
    cases u <;> first | exact hu.elim | skip
    refine ⟨_, _, rfl, .unit, rfl, trivial, trivial, rfl, ?_⟩
    rw [g.take]
    exact g
  | .num, .num i, N, j, C, hx, fx, hw, ho, hk, hN => by
    obtain ⟨n, rfl⟩ : ∃ n, N = n + 1 := ⟨N - 1, by omega⟩
    simp only [kd] at hN
    refine q_fun rfl ?_
    simp only [encK, Z.encD]
    walk_at "qk"
    refine ⟨rfl, (value_ok .num hw rfl (by decide) (by simp only [kd]; omega)).mono ?_⟩
    rintro _ C1 ⟨u, rfl, hu, fu, g⟩
    cases u <;> first | exact hu.elim | skip
    refine ⟨_, _, rfl, .num _, rfl, trivial, fits.mono (v := .num _) hRB.r hRB.b fu, rfl, ?_⟩
    rw [g.take]
    exact g
  | .bag a, .bag r, N, j, C, hx, fx, hw, ho, hk, hN => by
    obtain ⟨n, rfl⟩ : ∃ n, N = n + 1 := ⟨N - 1, by omega⟩
    simp only [kd] at hN hk
    refine q_fun rfl ?_
    simp only [encK, Z.encD]
    walk_at "qk"
    refine ⟨rfl, (value_ok (.bag a) hw ho (by simp only [bkd]; omega) (by simp only [kd]; omega)).mono ?_⟩
    rintro _ C1 ⟨u, rfl, hu, fu, g⟩
    cases u <;> first | exact hu.elim | skip
    refine ⟨_, _, rfl, .bag _, rfl, hu, fits.mono (v := .bag _) hRB.r hRB.b fu, rfl, ?_⟩
    rw [g.take]
    exact g
  | .pair a b, .pair x y, N, j, C, hx, fx, hw, ho, hk, hN => by
    obtain ⟨n, rfl⟩ : ∃ n, N = n + 1 := ⟨N - 1, by omega⟩
    simp only [kd] at hN hk
    simp only [DK.ok, Bool.and_eq_true] at ho
    refine q_fun rfl ?_
    simp only [encK, Z.encD]
    walk_at "qk"
    refine ⟨rfl, (change_ok hRB a hx.1 fx.1 hw ho.1 (by omega) (by omega)).mono ?_⟩
    rintro _ C1 ⟨u, rfl, hu, fu, eu, g1⟩
    walk_at "qk"
    refine ⟨rfl, (change_ok hRB b hx.2 fx.2 g1.1 ho.2 (by omega) (by omega)).mono ?_⟩
    rintro _ C2 ⟨v, rfl, hv, fv, ev, g2⟩
    walk_at "qk"
    have g := g1.trans g2
    rw [g.take]
    exact ⟨.pair u v, rfl, ⟨hu, hv⟩, ⟨fu, fv⟩, by rw [fitD, eu, ev]; rfl, g⟩
  | .either a b, .left x, N, j, C, hx, fx, hw, ho, hk, hN => by
    obtain ⟨n, rfl⟩ : ∃ n, N = n + 1 := ⟨N - 1, by omega⟩
    have ho' := ho
    have hk' := hk
    simp only [kd] at hN hk
    simp only [DK.ok, Bool.and_eq_true] at ho
    have hx1 : has a x := hx
    have fx1 : fits R B x := fx
    have b1 := bkd_le a
    have b2 := bkd_le b
    refine q_fun rfl ?_
    simp only [encK, Z.encD]
    walk_at "qk"
    refine ⟨rfl, (draw' (by omega) hw (by decide) (by decide)).mono ?_⟩
    rintro _ C1 ⟨r, rfl, r0, r1, g1⟩
    walk_at "qk"
    refine q_dec (fun h => ?_) (fun h => ?_)
    · walk_at "qk"
      refine ⟨rfl, (value_ok a g1.1 ho.1 (by omega) (by omega)).mono ?_⟩
      rintro _ C2 ⟨y, rfl, hy, fy, g2⟩
      walk_at "qk"
      refine ⟨rfl, (value_ok (.either a b) g2.1 ho' (by simp only [bkd]; omega) (by simp only [kd]; omega)).mono ?_⟩
      rintro _ C3 ⟨z, rfl, hz, fz, g3⟩
      walk_at "qk"
      refine ⟨rfl, (pick' (by omega) g3.1 (by simp) (Nat.le_of_ble_eq_true rfl)).mono ?_⟩
      rintro _ C4 ⟨q, hq, rfl, g4⟩
      have hq2 : ∃ w : DV, q = Z.encD w ∧ has (.either a b) w ∧ fits R B w := by
        simp only [List.mem_cons, List.not_mem_nil, or_false] at hq
        rcases hq with rfl | rfl | rfl
        · exact ⟨z, rfl, hz, fz.mono hRB.r hRB.b⟩
        · exact ⟨.left y, rfl, hy, fits.mono (v := .left y) hRB.r hRB.b fy⟩
        · exact ⟨.left x, rfl, hx, fx⟩
      obtain ⟨w, rfl, hw2, fw⟩ := hq2
      walk_at "qk"
      have g := ((g1.trans g2).trans g3).trans g4
      rw [g.take]
      exact ⟨.right w, rfl, hw2, fw, rfl, g⟩
    · walk_at "qk"
      refine ⟨rfl, (change_ok hRB a hx1 fx1 g1.1 ho.1 (by omega) (by omega)).mono ?_⟩
      rintro _ C2 ⟨u, rfl, hu, fu, eu, g2⟩
      walk_at "qk"
      have g := g1.trans g2
      rw [g.take]
      exact ⟨.left (.left u), rfl, hu, fu, by rw [fitD]; exact eu, g⟩
  | .either a b, .right x, N, j, C, hx, fx, hw, ho, hk, hN => by
    obtain ⟨n, rfl⟩ : ∃ n, N = n + 1 := ⟨N - 1, by omega⟩
    have ho' := ho
    have hk' := hk
    simp only [kd] at hN hk
    simp only [DK.ok, Bool.and_eq_true] at ho
    have hx1 : has b x := hx
    have fx1 : fits R B x := fx
    have b1 := bkd_le a
    have b2 := bkd_le b
    refine q_fun rfl ?_
    simp only [encK, Z.encD]
    walk_at "qk"
    refine ⟨rfl, (draw' (by omega) hw (by decide) (by decide)).mono ?_⟩
    rintro _ C1 ⟨r, rfl, r0, r1, g1⟩
    walk_at "qk"
    refine q_dec (fun h => ?_) (fun h => ?_)
    · walk_at "qk"
      refine ⟨rfl, (value_ok b g1.1 ho.2 (by omega) (by omega)).mono ?_⟩
      rintro _ C2 ⟨y, rfl, hy, fy, g2⟩
      walk_at "qk"
      refine ⟨rfl, (value_ok (.either a b) g2.1 ho' (by simp only [bkd]; omega) (by simp only [kd]; omega)).mono ?_⟩
      rintro _ C3 ⟨z, rfl, hz, fz, g3⟩
      walk_at "qk"
      refine ⟨rfl, (pick' (by omega) g3.1 (by simp) (Nat.le_of_ble_eq_true rfl)).mono ?_⟩
      rintro _ C4 ⟨q, hq, rfl, g4⟩
      have hq2 : ∃ w : DV, q = Z.encD w ∧ has (.either a b) w ∧ fits R B w := by
        simp only [List.mem_cons, List.not_mem_nil, or_false] at hq
        rcases hq with rfl | rfl | rfl
        · exact ⟨z, rfl, hz, fz.mono hRB.r hRB.b⟩
        · exact ⟨.right y, rfl, hy, fits.mono (v := .right y) hRB.r hRB.b fy⟩
        · exact ⟨.right x, rfl, hx, fx⟩
      obtain ⟨w, rfl, hw2, fw⟩ := hq2
      walk_at "qk"
      have g := ((g1.trans g2).trans g3).trans g4
      rw [g.take]
      exact ⟨.right w, rfl, hw2, fw, rfl, g⟩
    · walk_at "qk"
      refine ⟨rfl, (change_ok hRB b hx1 fx1 g1.1 ho.2 (by omega) (by omega)).mono ?_⟩
      rintro _ C2 ⟨u, rfl, hu, fu, eu, g2⟩
      walk_at "qk"
      have g := g1.trans g2
      rw [g.take]
      exact ⟨.left (.right u), rfl, hu, fu, by rw [fitD]; exact eu, g⟩
end N25
end
section
open M
local macro_rules | `(tactic| walk_at "q1") => `(tactic| (first
  | with_reducible refine q_seq ?_ | with_reducible refine q_sif ?_ | with_reducible refine q_asg ?_ | with_reducible refine q_ret ?_ | with_reducible refine q_next ?_ | with_reducible refine q_drop ?_ | with_reducible refine q_for ?_ | with_reducible refine q_par ?_ | with_reducible refine q_par3 ?_
  | ((with_reducible refine' q_var ?k1 ?_); (case k1 => rfl)) | with_reducible refine q_c ?_ | with_reducible refine q_op ?_ | with_reducible refine q_un ?_ | with_reducible refine q_cons ?_ | with_reducible refine q_nil ?_ | with_reducible refine q_cb ?_ | with_reducible refine q_ty ?_
  | with_reducible refine q_test ?_ | with_reducible refine q_if ?_ | with_reducible refine q_tup ?_ | with_reducible refine q_lst ?_ | with_reducible refine q_and ?_ | with_reducible refine q_or ?_ | with_reducible refine q_not ?_ | with_reducible refine q_andV ?_ | with_reducible refine q_orV ?_ | with_reducible refine q_notV ?_
  | with_reducible refine q_call ?_ | with_reducible refine q_callN ?_ | with_reducible refine q_sl ?_ | with_reducible refine q_onone ?_ | with_reducible refine q_osome ?_ | with_reducible refine q_gname ?_ | with_reducible refine q_gcons ?_ | with_reducible refine q_gnil ?_ | with_reducible refine q_gconsM ?_ | with_reducible refine q_gnilM ?_ | with_reducible refine q_gsub ?_ | ((with_reducible refine' q_gtup ?k1 ?_); (case k1 => rfl))
  | with_reducible refine q_leave ?_ | with_reducible refine q_yes ?_ | with_reducible refine q_it ?_ | with_reducible refine q_if0 ?_ | with_reducible refine q_iR1 ?_ | with_reducible refine q_lstC ?_ | with_reducible refine q_tru ?_ | with_reducible refine q_lc ?_
  | with_reducible refine RP.eq paddi ?_ | with_reducible refine RP.eq psubi ?_ | with_reducible refine RP.eq pinti ?_ | with_reducible refine RP.eq pintb ?_ | with_reducible refine RP.eq pabsi ?_ | with_reducible refine RP.eq pnegi ?_ | with_reducible refine RP.eq peqs ?_ | with_reducible refine RP.eq peqi ?_
  | with_reducible refine RP.eq pnes ?_ | with_reducible refine RP.eq pnei ?_ | with_reducible refine RP.eq pgti ?_ | with_reducible refine RP.eq plei ?_ | with_reducible refine RP.eq pgei ?_ | with_reducible refine RP.eq plti ?_ | with_reducible refine RP.eq plent ?_ | with_reducible refine RP.eq plenl ?_
  | with_reducible refine RP.eq psltt ?_ | with_reducible refine RP.eq psltl ?_
  | ((with_reducible refine' RP.eq (pmuli ?k1) ?_); (case k1 => first | (unfold L2.CMul; omega) | (unfold L2.CMul; decide))) | ((with_reducible refine' RP.eq (pmodi ?k1) ?_); (case k1 => first | omega | decide)) | ((with_reducible refine' RP.eq (pfdivi ?k1) ?_); (case k1 => unfold L2.CDiv; omega)) | ((with_reducible refine' RP.eq (pdivmodi ?k1) ?_); (case k1 => unfold L2.CDiv; omega)) | ((with_reducible refine' RP.eq (pdivmodWi ?k1 ?k2) ?_); (case k1 => omega); (case k2 => omega)) | ((with_reducible refine' RP.eq (ppowi ?k1) ?_); (case k1 => unfold L2.CPow; decide))
  | with_reducible refine q_asB ?_ | ((with_reducible refine' q_allD ?k1 ?_); (case k1 => rfl))
  | with_reducible refine Z.r_nt ?_ | with_reducible refine Z.r_nf ?_
  | with_reducible refine RP.eq isi_int_none ?_ | with_reducible refine RP.eq isi_int_bool ?_ | with_reducible refine RP.eq isi_int_int ?_ | with_reducible refine RP.eq isi_int_str ?_ | with_reducible refine RP.eq isi_int_tuple ?_ | with_reducible refine RP.eq isi_int_list ?_ | with_reducible refine RP.eq isi_bool_none ?_ | with_reducible refine RP.eq isi_bool_bool ?_ | with_reducible refine RP.eq isi_bool_int ?_ | with_reducible refine RP.eq isi_bool_str ?_ | with_reducible refine RP.eq isi_bool_tuple ?_ | with_reducible refine RP.eq isi_bool_list ?_ | with_reducible refine RP.eq isi_tuple_none ?_ | with_reducible refine RP.eq isi_tuple_bool ?_ | with_reducible refine RP.eq isi_tuple_int ?_ | with_reducible refine RP.eq isi_tuple_str ?_ | with_reducible refine RP.eq isi_tuple_tuple ?_ | with_reducible refine RP.eq isi_tuple_list ?_ | with_reducible refine RP.eq isi_str_none ?_ | with_reducible refine RP.eq isi_str_bool ?_ | with_reducible refine RP.eq isi_str_int ?_ | with_reducible refine RP.eq isi_str_str ?_ | with_reducible refine RP.eq isi_str_tuple ?_ | with_reducible refine RP.eq isi_str_list ?_ | with_reducible refine RP.eq isi_list_none ?_ | with_reducible refine RP.eq isi_list_bool ?_ | with_reducible refine RP.eq isi_list_int ?_ | with_reducible refine RP.eq isi_list_str ?_ | with_reducible refine RP.eq isi_list_tuple ?_ | with_reducible refine RP.eq isi_list_list ?_
  | with_reducible refine RP.eq isi_int ?_ | with_reducible refine RP.eq isi_bool ?_ | with_reducible refine RP.eq isi_tuple ?_ | with_reducible refine RP.eq isi_str ?_ | with_reducible refine RP.eq isi_list ?_
  | ((with_reducible refine' q_len ?k1 ?_); (case k1 => rfl)) | ((with_reducible refine' RP.eq (paddt ?k1) ?_); (case k1 => exact Nat.le_of_ble_eq_true rfl))
  | ((with_reducible refine' q_lcons ?k1 ?_); (case k1 => rfl)) | ((with_reducible refine' q_lnil ?k1 ?_); (case k1 => rfl)) | with_reducible refine q_tab ?_ | with_reducible refine q_isTab ?_ | with_reducible refine q_noTab ?_ | with_reducible refine q_str1 ?_ | with_reducible refine q_int1 ?_
  | with_reducible refine RP.eq ptuplel ?_
  | with_reducible refine RP.eq pix0 ?_ | with_reducible refine RP.eq pix1 ?_ | with_reducible refine RP.eq pix2 ?_))
local macro_rules | `(tactic| walk_at "qq") => `(tactic| repeat walk_at "q1")
local macro_rules | `(tactic| walk_at "cell") => `(tactic| first | assumption | (apply M.set_at; walk_at "cell"))
local macro_rules | `(tactic| walk_at "qc") => `(tactic| repeat (first
  | walk_at "q1"
  | ((refine' M.cIx ?k1 ?k2 ?_); (case k1 => walk_at "cell"); (case k2 => rfl))
  | ((refine' M.cSet ?k1 ?k2 ?_); (case k1 => walk_at "cell"); (case k2 => rfl))))
local macro_rules | `(tactic| walk_at "ks") => `(tactic| first | (refine M.q_dec (fun hs => absurd hs (by decide +kernel)) (fun _ => ?_)) | (refine M.q_dec (fun _ => ?_) (fun hs => absurd rfl hs)) | (refine M.q_ndec (fun _ => ?_) (fun hs => absurd hs (by decide +kernel))) | (refine M.q_ndec (fun hs => absurd rfl hs) (fun _ => ?_)))
local macro_rules | `(tactic| walk_at "qk") => `(tactic| repeat (first
  | walk_at "q1"
  | ((refine' M.cIx ?k1 ?k2 ?_); (case k1 => walk_at "cell"); (case k2 => rfl))
  | ((refine' M.cSet ?k1 ?k2 ?_); (case k1 => walk_at "cell"); (case k2 => rfl))
  | walk_at "ks"))
namespace N25
open PySem PySem.Spec PyProof.Rows L2 Z M
theorem two_pow (d : Nat) : 2 ^ (d + 1) = 2 * 2 ^ d := by rw [Nat.pow_succ, Nat.mul_comm]
theorem two_pos (d : Nat) : 1 ≤ 2 ^ d := Nat.pow_pos (by decide)
theorem two_mono {a b : Nat} (h : a ≤ b) : 2 ^ a ≤ 2 ^ b := Nat.pow_le_pow_right (by decide) h
theorem size4 : ("pair" : Str).cps.size = 4 ∧ ("left" : Str).cps.size = 4 ∧ ("right" : Str).cps.size = 5 := by decide +kernel
theorem sh_str (s : Str) {n : Nat} (h : s.cps.toList.all (fun c => decide (c < 16 ^ 8)) = true) : Shows n s.cps.size (.str s) := (shows_str s h).mono (Nat.zero_le _) (Nat.le_refl _)
theorem sh_pair {n a b : Nat} {x y : PyData} (h1 : Shows n a x) (h2 : Shows n b y) : Shows (n + 1) (a + b + 7) (.tuple [.str "pair", x, y]) := by
  have t := (ShowsAll.cons (sh_str "pair" (n := n) (by decide +kernel)) (.cons h1 (.cons h2 .nil))).tup
  refine t.mono (Nat.le_refl _) ?_
  rw [size4.1]
  omega
theorem sh_left {n a : Nat} {x : PyData} (h1 : Shows n a x) : Shows (n + 1) (a + 7) (.tuple [.str "left", x]) := by
  have t := (ShowsAll.cons (sh_str "left" (n := n) (by decide +kernel)) (.cons h1 .nil)).tup
  refine t.mono (Nat.le_refl _) ?_
  rw [size4.2.1]
  omega
theorem sh_right {n a : Nat} {x : PyData} (h1 : Shows n a x) : Shows (n + 1) (a + 7) (.tuple [.str "right", x]) := by
  have t := (ShowsAll.cons (sh_str "right" (n := n) (by decide +kernel)) (.cons h1 .nil)).tup
  refine t.mono (Nat.le_refl _) ?_
  rw [size4.2.2]
  omega
theorem sh_P : ∀ {k : DK} {x : PV}, hasP k x → pok x → Shows (kd k) (7 * 2 ^ kd k - 7) (encP x)
  | .unit, .unit, _, _ => shows_nil.mono (Nat.le_refl _) (Nat.zero_le _)
  | .num, .num i, _, h => (shows_int h).mono (Nat.zero_le _) (Nat.zero_le _)
  | .pair a b, .pair x y, ⟨h1, h2⟩, ⟨p1, p2⟩ => by
    have e1 := two_mono (Nat.le_max_left (kd a) (kd b))
    have e2 := two_mono (Nat.le_max_right (kd a) (kd b))
    have e3 := two_pos (max (kd a) (kd b))
    have s1 := (sh_P h1 p1).mono (n' := max (kd a) (kd b)) (Nat.le_max_left _ _) (Nat.le_refl _)
    have s2 := (sh_P h2 p2).mono (n' := max (kd a) (kd b)) (Nat.le_max_right _ _) (Nat.le_refl _)
    refine (sh_pair s1 s2).mono (Nat.le_refl _) ?_
    rw [kd, two_pow]
    omega
  | .either a b, .left x, h1, p1 => by
    have e1 := two_mono (Nat.le_max_left (kd a) (kd b))
    have e3 := two_pos (max (kd a) (kd b))
    have s1 := (sh_P (k := a) h1 p1).mono (n' := max (kd a) (kd b)) (Nat.le_max_left _ _) (Nat.le_refl _)
    refine (sh_left s1).mono (Nat.le_refl _) ?_
    rw [kd, two_pow]
    omega
  | .either a b, .right x, h1, p1 => by
    have e1 := two_mono (Nat.le_max_right (kd a) (kd b))
    have e3 := two_pos (max (kd a) (kd b))
    have s1 := (sh_P (k := b) h1 p1).mono (n' := max (kd a) (kd b)) (Nat.le_max_right _ _) (Nat.le_refl _)
    refine (sh_right s1).mono (Nat.le_refl _) ?_
    rw [kd, two_pow]
    omega
theorem sh_rows {a : DK} {B : Nat} (hB : B < big) : ∀ {r : Rows}, (∀ p ∈ r, hasP a p.1) → (∀ p ∈ r, p.2.natAbs ≤ B ∧ pok p.1) → ShowsAll (kd a + 1) (r.length * (7 * 2 ^ kd a)) (r.map encR)
  | [], _, _ => by
    rw [List.length_nil, Nat.zero_mul]
    exact .nil
  | p :: r, h1, h2 => by
    have ih := sh_rows hB (r := r) (fun q hq => h1 q (List.mem_cons_of_mem _ hq)) (fun q hq => h2 q (List.mem_cons_of_mem _ hq))
    obtain ⟨b1, b2⟩ := h2 p List.mem_cons_self
    have e3 := two_pos (kd a)
    have s1 := sh_P (h1 p List.mem_cons_self) b2
    have s2 := (shows_int (i := p.2) (by omega)).mono (n' := kd a) (Nat.zero_le _) (Nat.le_refl _)
    have t := ((ShowsAll.cons s1 (.cons s2 .nil)).tup.mono (n' := kd a + 1) (m' := 7 * 2 ^ kd a - 1) (Nat.le_refl _) (by omega))
    have t2 := ShowsAll.cons t ih
    have e : 7 * 2 ^ kd a - 1 + 1 + r.length * (7 * 2 ^ kd a) = (p :: r).length * (7 * 2 ^ kd a) := by
      rw [List.length_cons, Nat.add_mul, Nat.one_mul]
      omega
    rw [← e]
    exact t2
theorem sh_D {R B : Nat} (hB : B < big) : ∀ {k : DK} {x : DV}, has k x → fits R B x → Shows (kd k + 1) (10 * (R + 1) * 2 ^ kd k - 7) (encD x)
  | .unit, .unit, _, _ => shows_nil.mono (by decide) (Nat.zero_le _)
  | .num, .num i, _, h => (shows_int (Nat.lt_of_le_of_lt (show i.natAbs ≤ B from h) hB)).mono (Nat.zero_le _) (Nat.zero_le _)
  | .bag a, .bag r, ⟨g, hp⟩, ⟨l, h⟩ => by
    refine (sh_rows hB hp h).tup.mono (Nat.le_refl _) ?_
    have e3 := two_pos (kd a)
    have e4 : r.length * (7 * 2 ^ kd a) ≤ R * (7 * 2 ^ kd a) := Nat.mul_le_mul_right _ l
    have e5 : 10 * (R + 1) * (2 * 2 ^ kd a) = R * (20 * 2 ^ kd a) + 20 * 2 ^ kd a := by
      rw [Nat.mul_comm 10 (R + 1), Nat.mul_assoc, Nat.add_mul, Nat.one_mul, ← Nat.mul_assoc 10 2]
    have e6 : R * (7 * 2 ^ kd a) ≤ R * (20 * 2 ^ kd a) := Nat.mul_le_mul_left _ (by omega)
    rw [kd, two_pow, e5]
    omega
  | .pair a b, .pair x y, ⟨h1, h2⟩, ⟨p1, p2⟩ => by
    have e1 : 10 * (R + 1) * 2 ^ kd a ≤ 10 * (R + 1) * 2 ^ max (kd a) (kd b) := Nat.mul_le_mul_left _ (two_mono (Nat.le_max_left (kd a) (kd b)))
    have e2 : 10 * (R + 1) * 2 ^ kd b ≤ 10 * (R + 1) * 2 ^ max (kd a) (kd b) := Nat.mul_le_mul_left _ (two_mono (Nat.le_max_right (kd a) (kd b)))
    have e3 : 10 * 1 ≤ 10 * (R + 1) * 2 ^ max (kd a) (kd b) := Nat.mul_le_mul (by omega) (two_pos _)
    have s1 := (sh_D hB h1 p1).mono (n' := max (kd a) (kd b) + 1) (by omega) (Nat.le_refl _)
    have s2 := (sh_D hB h2 p2).mono (n' := max (kd a) (kd b) + 1) (by omega) (Nat.le_refl _)
    refine (sh_pair s1 s2).mono (Nat.le_refl _) ?_
    have e4 : 10 * (R + 1) * (2 * 2 ^ max (kd a) (kd b)) = 2 * (10 * (R + 1) * 2 ^ max (kd a) (kd b)) := by rw [← Nat.mul_assoc, ← Nat.mul_assoc, Nat.mul_comm (10 * (R + 1)) 2]
    rw [kd, two_pow, e4]
    omega
  | .either a b, .left x, h1, p1 => by
    have e1 : 10 * (R + 1) * 2 ^ kd a ≤ 10 * (R + 1) * 2 ^ max (kd a) (kd b) := Nat.mul_le_mul_left _ (two_mono (Nat.le_max_left (kd a) (kd b)))
    have e3 : 10 * 1 ≤ 10 * (R + 1) * 2 ^ max (kd a) (kd b) := Nat.mul_le_mul (by omega) (two_pos _)
    have s1 := (sh_D (k := a) (x := x) hB h1 p1).mono (n' := max (kd a) (kd b) + 1) (by omega) (Nat.le_refl _)
    refine (sh_left s1).mono (Nat.le_refl _) ?_
    have e4 : 10 * (R + 1) * (2 * 2 ^ max (kd a) (kd b)) = 2 * (10 * (R + 1) * 2 ^ max (kd a) (kd b)) := by rw [← Nat.mul_assoc, ← Nat.mul_assoc, Nat.mul_comm (10 * (R + 1)) 2]
    rw [kd, two_pow, e4]
    omega
  | .either a b, .right x, h1, p1 => by
    have e1 : 10 * (R + 1) * 2 ^ kd b ≤ 10 * (R + 1) * 2 ^ max (kd a) (kd b) := Nat.mul_le_mul_left _ (two_mono (Nat.le_max_right (kd a) (kd b)))
    have e3 : 10 * 1 ≤ 10 * (R + 1) * 2 ^ max (kd a) (kd b) := Nat.mul_le_mul (by omega) (two_pos _)
    have s1 := (sh_D (k := b) (x := x) hB h1 p1).mono (n' := max (kd a) (kd b) + 1) (by omega) (Nat.le_refl _)
    refine (sh_right s1).mono (Nat.le_refl _) ?_
    have e4 : 10 * (R + 1) * (2 * 2 ^ max (kd a) (kd b)) = 2 * (10 * (R + 1) * 2 ^ max (kd a) (kd b)) := by rw [← Nat.mul_assoc, ← Nat.mul_assoc, Nat.mul_comm (10 * (R + 1)) 2]
    rw [kd, two_pow, e4]
    omega
/-- a change -/
theorem sh_U {R B : Nat} (hB : B < big) : ∀ {k : DK} {x : DV}, has (dK k) x → fits R B x → Shows (2 * kd k + 1) (20 * (R + 1) * 2 ^ kd k - 14) (encD x)
  | .unit, .unit, _, _ => shows_nil.mono (by decide) (Nat.zero_le _)
  | .num, .num i, _, h => (shows_int (Nat.lt_of_le_of_lt (show i.natAbs ≤ B from h) hB)).mono (Nat.zero_le _) (Nat.zero_le _)
  | .bag a, .bag r, hx, fx => by
    have z := sh_D hB (k := .bag a) (x := .bag r) hx fx
    have e3 : 10 * 1 ≤ 10 * (R + 1) * 2 ^ kd (.bag a) := Nat.mul_le_mul (by omega) (two_pos _)
    have e4 : 20 * (R + 1) * 2 ^ kd (.bag a) = 2 * (10 * (R + 1) * 2 ^ kd (.bag a)) := by rw [← Nat.mul_assoc, ← Nat.mul_assoc]
    exact z.mono (by omega) (by rw [e4]; omega)
  | .pair a b, .pair x y, ⟨h1, h2⟩, ⟨p1, p2⟩ => by
    have e1 : 20 * (R + 1) * 2 ^ kd a ≤ 20 * (R + 1) * 2 ^ max (kd a) (kd b) := Nat.mul_le_mul_left _ (two_mono (Nat.le_max_left (kd a) (kd b)))
    have e2 : 20 * (R + 1) * 2 ^ kd b ≤ 20 * (R + 1) * 2 ^ max (kd a) (kd b) := Nat.mul_le_mul_left _ (two_mono (Nat.le_max_right (kd a) (kd b)))
    have e3 : 20 * 1 ≤ 20 * (R + 1) * 2 ^ max (kd a) (kd b) := Nat.mul_le_mul (by omega) (two_pos _)
    have s1 := (sh_U hB (k := a) h1 p1).mono (n' := 2 * max (kd a) (kd b) + 1) (by omega) (Nat.le_refl _)
    have s2 := (sh_U hB (k := b) h2 p2).mono (n' := 2 * max (kd a) (kd b) + 1) (by omega) (Nat.le_refl _)
    have e4 : 20 * (R + 1) * (2 * 2 ^ max (kd a) (kd b)) = 2 * (20 * (R + 1) * 2 ^ max (kd a) (kd b)) := by rw [← Nat.mul_assoc, ← Nat.mul_assoc, Nat.mul_comm (20 * (R + 1)) 2]
    refine (sh_pair s1 s2).mono (by rw [kd]; omega) ?_
    rw [kd, two_pow, e4]
    omega
  | .either a b, .left (.left x), h1, p1 => by
    have e1 : 20 * (R + 1) * 2 ^ kd a ≤ 20 * (R + 1) * 2 ^ max (kd a) (kd b) := Nat.mul_le_mul_left _ (two_mono (Nat.le_max_left (kd a) (kd b)))
    have e3 : 20 * 1 ≤ 20 * (R + 1) * 2 ^ max (kd a) (kd b) := Nat.mul_le_mul (by omega) (two_pos _)
    have s1 := (sh_U hB (k := a) (x := x) h1 p1).mono (n' := 2 * max (kd a) (kd b) + 1) (by omega) (Nat.le_refl _)
    have e4 : 20 * (R + 1) * (2 * 2 ^ max (kd a) (kd b)) = 2 * (20 * (R + 1) * 2 ^ max (kd a) (kd b)) := by rw [← Nat.mul_assoc, ← Nat.mul_assoc, Nat.mul_comm (20 * (R + 1)) 2]
    refine (sh_left (sh_left s1)).mono (by rw [kd]; omega) ?_
    rw [kd, two_pow, e4]
    omega
  | .either a b, .left (.right x), h1, p1 => by
    have e1 : 20 * (R + 1) * 2 ^ kd b ≤ 20 * (R + 1) * 2 ^ max (kd a) (kd b) := Nat.mul_le_mul_left _ (two_mono (Nat.le_max_right (kd a) (kd b)))
    have e3 : 20 * 1 ≤ 20 * (R + 1) * 2 ^ max (kd a) (kd b) := Nat.mul_le_mul (by omega) (two_pos _)
    have s1 := (sh_U hB (k := b) (x := x) h1 p1).mono (n' := 2 * max (kd a) (kd b) + 1) (by omega) (Nat.le_refl _)
    have e4 : 20 * (R + 1) * (2 * 2 ^ max (kd a) (kd b)) = 2 * (20 * (R + 1) * 2 ^ max (kd a) (kd b)) := by rw [← Nat.mul_assoc, ← Nat.mul_assoc, Nat.mul_comm (20 * (R + 1)) 2]
    refine (sh_left (sh_right s1)).mono (by rw [kd]; omega) ?_
    rw [kd, two_pow, e4]
    omega
  | .either a b, .right w, h1, p1 => by
    have s1 := sh_D hB (k := .either a b) (x := w) h1 p1
    have e3 : 10 * 2 ≤ 10 * (R + 1) * 2 ^ kd (.either a b) := by
      rw [kd, two_pow, Nat.mul_assoc]
      refine Nat.mul_le_mul_left 10 ?_
      have e5 := Nat.mul_le_mul (show 1 ≤ R + 1 by omega) (show 2 * 1 ≤ 2 * 2 ^ max (kd a) (kd b) from Nat.mul_le_mul_left 2 (two_pos _))
      omega
    have e4 : 20 * (R + 1) * 2 ^ kd (.either a b) = 2 * (10 * (R + 1) * 2 ^ kd (.either a b)) := by rw [← Nat.mul_assoc, ← Nat.mul_assoc]
    refine (sh_right s1).mono (by rw [kd]; omega) ?_
    rw [e4]
    omega
end N25
end
section
open M
local macro_rules | `(tactic| walk_at "q1") => `(tactic| (first
  | with_reducible refine q_seq ?_ | with_reducible refine q_sif ?_ | with_reducible refine q_asg ?_ | with_reducible refine q_ret ?_ | with_reducible refine q_next ?_ | with_reducible refine q_drop ?_ | with_reducible refine q_for ?_ | with_reducible refine q_par ?_ | with_reducible refine q_par3 ?_
  | ((with_reducible refine' q_var ?k1 ?_); (case k1 => rfl)) | with_reducible refine q_c ?_ | with_reducible refine q_op ?_ | with_reducible refine q_un ?_ | with_reducible refine q_cons ?_ | with_reducible refine q_nil ?_ | with_reducible refine q_cb ?_ | with_reducible refine q_ty ?_
  | with_reducible refine q_test ?_ | with_reducible refine q_if ?_ | with_reducible refine q_tup ?_ | with_reducible refine q_lst ?_ | with_reducible refine q_and ?_ | with_reducible refine q_or ?_ | with_reducible refine q_not ?_ | with_reducible refine q_andV ?_ | with_reducible refine q_orV ?_ | with_reducible refine q_notV ?_
  | with_reducible refine q_call ?_ | with_reducible refine q_callN ?_ | with_reducible refine q_sl ?_ | with_reducible refine q_onone ?_ | with_reducible refine q_osome ?_ | with_reducible refine q_gname ?_ | with_reducible refine q_gcons ?_ | with_reducible refine q_gnil ?_ | with_reducible refine q_gconsM ?_ | with_reducible refine q_gnilM ?_ | with_reducible refine q_gsub ?_ | ((with_reducible refine' q_gtup ?k1 ?_); (case k1 => rfl))
  | with_reducible refine q_leave ?_ | with_reducible refine q_yes ?_ | with_reducible refine q_it ?_ | with_reducible refine q_if0 ?_ | with_reducible refine q_iR1 ?_ | with_reducible refine q_lstC ?_ | with_reducible refine q_tru ?_ | with_reducible refine q_lc ?_
  | with_reducible refine RP.eq paddi ?_ | with_reducible refine RP.eq psubi ?_ | with_reducible refine RP.eq pinti ?_ | with_reducible refine RP.eq pintb ?_ | with_reducible refine RP.eq pabsi ?_ | with_reducible refine RP.eq pnegi ?_ | with_reducible refine RP.eq peqs ?_ | with_reducible refine RP.eq peqi ?_
  | with_reducible refine RP.eq pnes ?_ | with_reducible refine RP.eq pnei ?_ | with_reducible refine RP.eq pgti ?_ | with_reducible refine RP.eq plei ?_ | with_reducible refine RP.eq pgei ?_ | with_reducible refine RP.eq plti ?_ | with_reducible refine RP.eq plent ?_ | with_reducible refine RP.eq plenl ?_
  | with_reducible refine RP.eq psltt ?_ | with_reducible refine RP.eq psltl ?_
  | ((with_reducible refine' RP.eq (pmuli ?k1) ?_); (case k1 => first | (unfold L2.CMul; omega) | (unfold L2.CMul; decide))) | ((with_reducible refine' RP.eq (pmodi ?k1) ?_); (case k1 => first | omega | decide)) | ((with_reducible refine' RP.eq (pfdivi ?k1) ?_); (case k1 => unfold L2.CDiv; omega)) | ((with_reducible refine' RP.eq (pdivmodi ?k1) ?_); (case k1 => unfold L2.CDiv; omega)) | ((with_reducible refine' RP.eq (pdivmodWi ?k1 ?k2) ?_); (case k1 => omega); (case k2 => omega)) | ((with_reducible refine' RP.eq (ppowi ?k1) ?_); (case k1 => unfold L2.CPow; decide))
  | with_reducible refine q_asB ?_ | ((with_reducible refine' q_allD ?k1 ?_); (case k1 => rfl))
  | with_reducible refine Z.r_nt ?_ | with_reducible refine Z.r_nf ?_
  | with_reducible refine RP.eq isi_int_none ?_ | with_reducible refine RP.eq isi_int_bool ?_ | with_reducible refine RP.eq isi_int_int ?_ | with_reducible refine RP.eq isi_int_str ?_ | with_reducible refine RP.eq isi_int_tuple ?_ | with_reducible refine RP.eq isi_int_list ?_ | with_reducible refine RP.eq isi_bool_none ?_ | with_reducible refine RP.eq isi_bool_bool ?_ | with_reducible refine RP.eq isi_bool_int ?_ | with_reducible refine RP.eq isi_bool_str ?_ | with_reducible refine RP.eq isi_bool_tuple ?_ | with_reducible refine RP.eq isi_bool_list ?_ | with_reducible refine RP.eq isi_tuple_none ?_ | with_reducible refine RP.eq isi_tuple_bool ?_ | with_reducible refine RP.eq isi_tuple_int ?_ | with_reducible refine RP.eq isi_tuple_str ?_ | with_reducible refine RP.eq isi_tuple_tuple ?_ | with_reducible refine RP.eq isi_tuple_list ?_ | with_reducible refine RP.eq isi_str_none ?_ | with_reducible refine RP.eq isi_str_bool ?_ | with_reducible refine RP.eq isi_str_int ?_ | with_reducible refine RP.eq isi_str_str ?_ | with_reducible refine RP.eq isi_str_tuple ?_ | with_reducible refine RP.eq isi_str_list ?_ | with_reducible refine RP.eq isi_list_none ?_ | with_reducible refine RP.eq isi_list_bool ?_ | with_reducible refine RP.eq isi_list_int ?_ | with_reducible refine RP.eq isi_list_str ?_ | with_reducible refine RP.eq isi_list_tuple ?_ | with_reducible refine RP.eq isi_list_list ?_
  | with_reducible refine RP.eq isi_int ?_ | with_reducible refine RP.eq isi_bool ?_ | with_reducible refine RP.eq isi_tuple ?_ | with_reducible refine RP.eq isi_str ?_ | with_reducible refine RP.eq isi_list ?_
  | ((with_reducible refine' q_len ?k1 ?_); (case k1 => rfl)) | ((with_reducible refine' RP.eq (paddt ?k1) ?_); (case k1 => exact Nat.le_of_ble_eq_true rfl))
  | ((with_reducible refine' q_lcons ?k1 ?_); (case k1 => rfl)) | ((with_reducible refine' q_lnil ?k1 ?_); (case k1 => rfl)) | with_reducible refine q_tab ?_ | with_reducible refine q_isTab ?_ | with_reducible refine q_noTab ?_ | with_reducible refine q_str1 ?_ | with_reducible refine q_int1 ?_
  | with_reducible refine RP.eq ptuplel ?_
  | with_reducible refine RP.eq pix0 ?_ | with_reducible refine RP.eq pix1 ?_ | with_reducible refine RP.eq pix2 ?_))
local macro_rules | `(tactic| walk_at "qq") => `(tactic| repeat walk_at "q1")
local macro_rules | `(tactic| walk_at "cell") => `(tactic| first | assumption | (apply M.set_at; walk_at "cell"))
local macro_rules | `(tactic| walk_at "qc") => `(tactic| repeat (first
  | walk_at "q1"
  | ((refine' M.cIx ?k1 ?k2 ?_); (case k1 => walk_at "cell"); (case k2 => rfl))
  | ((refine' M.cSet ?k1 ?k2 ?_); (case k1 => walk_at "cell"); (case k2 => rfl))))
local macro_rules | `(tactic| walk_at "ks") => `(tactic| first | (refine M.q_dec (fun hs => absurd hs (by decide +kernel)) (fun _ => ?_)) | (refine M.q_dec (fun _ => ?_) (fun hs => absurd rfl hs)) | (refine M.q_ndec (fun _ => ?_) (fun hs => absurd hs (by decide +kernel))) | (refine M.q_ndec (fun hs => absurd rfl hs) (fun _ => ?_)))
local macro_rules | `(tactic| walk_at "qk") => `(tactic| repeat (first
  | walk_at "q1"
  | ((refine' M.cIx ?k1 ?k2 ?_); (case k1 => walk_at "cell"); (case k2 => rfl))
  | ((refine' M.cSet ?k1 ?k2 ?_); (case k1 => walk_at "cell"); (case k2 => rfl))
  | walk_at "ks"))
namespace N25
open PySem PySem.Spec PyProof.Rows L2 Z M
def joinD : DK → DV → DV → DV
  | .unit, _, _ => .unit
  | .pair a b, .pair x y, .pair u v => .pair (joinD a x u) (joinD b y v)
  | .either _ _, _, .right w => .right w
  | .either a b, .right w, u => .right (ledD (.either a b) w u)
  | .either a _, .left (.left x), .left (.left u) => .left (.left (joinD a x u))
  | .either _ b, .left (.right x), .left (.right u) => .left (.right (joinD b x u))
  | .either _ _, x, _ => x
  | _, x, u => plus x u
theorem join_has : ∀ {c : DK} {x u : DV}, c.ok = true → has (dK c) x → has (dK c) u → has (dK c) (joinD c x u)
  | .unit, .unit, .unit, _, _, _ => trivial
  | .num, .num i, .num j, _, _, _ => trivial
  | .bag a, .bag r, .bag s, h, hx, hu => ((Grp.of (k := .bag a) h hx).plus (Grp.of (k := .bag a) h hu)).has
  | .pair a b, .pair x y, .pair u v, h, hx, hu => by
    simp only [DK.ok, Bool.and_eq_true] at h
    exact ⟨join_has h.1 hx.1 hu.1, join_has h.2 hx.2 hu.2⟩
  | .either a b, .left (.left x), .right w, h, hx, hu => hu
  | .either a b, .left (.right x), .right w, h, hx, hu => hu
  | .either a b, .right x, .right w, h, hx, hu => hu
  | .either a b, .right w, .left (.left u), h, hx, hu => ledD_has (c := .either a b) (x := w) (u := .left (.left u)) h hx hu
  | .either a b, .right w, .left (.right u), h, hx, hu => ledD_has (c := .either a b) (x := w) (u := .left (.right u)) h hx hu
  | .either a b, .left (.left x), .left (.left u), h, hx, hu => by
    simp only [DK.ok, Bool.and_eq_true] at h
    exact join_has (c := a) h.1 hx hu
  | .either a b, .left (.right x), .left (.right u), h, hx, hu => by
    simp only [DK.ok, Bool.and_eq_true] at h
    exact join_has (c := b) h.2 hx hu
  | .either a b, .left (.left x), .left (.right u), h, hx, hu => hx
  | .either a b, .left (.right x), .left (.left u), h, hx, hu => hx
theorem join_fits {R1 R2 B1 B2 : Nat} : ∀ {c : DK} {x u : DV}, c.ok = true → has (dK c) x → has (dK c) u → fits R1 B1 x → fits R2 B2 u → fits (R1 + R2) (B1 + B2) (joinD c x u)
  | .unit, .unit, .unit, _, _, _, _, _ => trivial
  | .num, .num i, .num j, h, hx, hu, f1, f2 => fits_plus (Grp.num i) (Grp.num j) f1 f2
  | .bag a, .bag r, .bag s, h, hx, hu, f1, f2 => fits_plus (Grp.of (k := .bag a) h hx) (Grp.of (k := .bag a) h hu) f1 f2
  | .pair a b, .pair x y, .pair u v, h, hx, hu, f1, f2 => by
    simp only [DK.ok, Bool.and_eq_true] at h
    exact ⟨join_fits h.1 hx.1 hu.1 f1.1 f2.1, join_fits h.2 hx.2 hu.2 f1.2 f2.2⟩
  | .either a b, .left (.left x), .right w, h, hx, hu, f1, f2 => fits.mono (v := .right w) (by omega) (by omega) f2
  | .either a b, .left (.right x), .right w, h, hx, hu, f1, f2 => fits.mono (v := .right w) (by omega) (by omega) f2
  | .either a b, .right x, .right w, h, hx, hu, f1, f2 => fits.mono (v := .right w) (by omega) (by omega) f2
  | .either a b, .right w, .left (.left u), h, hx, hu, f1, f2 => ledD_fits (c := .either a b) (x := w) (u := .left (.left u)) h hx hu f1 f2
  | .either a b, .right w, .left (.right u), h, hx, hu, f1, f2 => ledD_fits (c := .either a b) (x := w) (u := .left (.right u)) h hx hu f1 f2
  | .either a b, .left (.left x), .left (.left u), h, hx, hu, f1, f2 => by
    simp only [DK.ok, Bool.and_eq_true] at h
    exact join_fits (c := a) h.1 hx hu f1 f2
  | .either a b, .left (.right x), .left (.right u), h, hx, hu, f1, f2 => by
    simp only [DK.ok, Bool.and_eq_true] at h
    exact join_fits (c := b) h.2 hx hu f1 f2
  | .either a b, .left (.left x), .left (.right u), h, hx, hu, f1, f2 => fits.mono (v := .left (.left x)) (by omega) (by omega) f1
  | .either a b, .left (.right x), .left (.left u), h, hx, hu, f1, f2 => fits.mono (v := .left (.right x)) (by omega) (by omega) f1
theorem join_fit : ∀ {c : DK} {v x u : DV}, has c v → has (dK c) x → has (dK c) u → fitD c v x = true → fitD c (ledD c v x) u = true → fitD c v (joinD c x u) = true
  | .unit, .unit, .unit, .unit, _, _, _, _, _ => rfl
  | .num, .num _, .num _, .num _, _, _, _, _, _ => rfl
  | .bag _, .bag _, .bag _, .bag _, _, _, _, _, _ => rfl
  | .pair a b, .pair v1 v2, .pair x1 x2, .pair u1 u2, hv, hx, hu, f1, f2 => by
    simp only [fitD, ledD, Bool.and_eq_true] at f1 f2
    rw [joinD, fitD, join_fit hv.1 hx.1 hu.1 f1.1 f2.1, join_fit hv.2 hx.2 hu.2 f1.2 f2.2]
    rfl
  | .either a b, .left v, .left (.left x), .right w, _, _, _, _, _ => rfl
  | .either a b, .left v, .left (.right x), .right w, _, _, _, _, _ => rfl
  | .either a b, .left v, .right x, .right w, _, _, _, _, _ => rfl
  | .either a b, .right v, .left (.left x), .right w, _, _, _, _, _ => rfl
  | .either a b, .right v, .left (.right x), .right w, _, _, _, _, _ => rfl
  | .either a b, .right v, .right x, .right w, _, _, _, _, _ => rfl
  | .either a b, .left v, .right w, .left (.left u), _, _, _, _, _ => rfl
  | .either a b, .left v, .right w, .left (.right u), _, _, _, _, _ => rfl
  | .either a b, .right v, .right w, .left (.left u), _, _, _, _, _ => rfl
  | .either a b, .right v, .right w, .left (.right u), _, _, _, _, _ => rfl
  | .either a b, .left v, .left (.left x), .left (.left u), hv, hx, hu, f1, f2 => by
    simp only [fitD, ledD] at f1 f2
    rw [joinD, fitD]
    exact join_fit (c := a) hv hx hu f1 f2
  | .either a b, .right v, .left (.right x), .left (.right u), hv, hx, hu, f1, f2 => by
    simp only [fitD, ledD] at f1 f2
    rw [joinD, fitD]
    exact join_fit (c := b) hv hx hu f1 f2
  | .either a b, .left v, .left (.left x), .left (.right u), _, _, _, _, f2 => by simp [fitD, ledD] at f2
  | .either a b, .right v, .left (.right x), .left (.left u), _, _, _, _, f2 => by simp [fitD, ledD] at f2
  | .either a b, .left v, .left (.right x), .left _, _, _, _, f1, _ => by simp [fitD] at f1
  | .either a b, .right v, .left (.left x), .left _, _, _, _, f1, _ => by simp [fitD] at f1
theorem join_led : ∀ {c : DK} {v x u : DV}, c.ok = true → has c v → has (dK c) x → has (dK c) u → fitD c v x = true → fitD c (ledD c v x) u = true → ledD c v (joinD c x u) = ledD c (ledD c v x) u
  | .unit, .unit, .unit, .unit, _, _, _, _, _, _ => rfl
  | .num, .num i, .num j, .num l, _, _, _, _, _, _ => (plus_assoc (.num i) (.num j) (.num l)).symm
  | .bag a, .bag r, .bag s, .bag t, h, hv, hx, hu, _, _ => (plus_assoc (Grp.of (k := .bag a) h hv) (Grp.of (k := .bag a) h hx) (Grp.of (k := .bag a) h hu)).symm
  | .pair a b, .pair v1 v2, .pair x1 x2, .pair u1 u2, h, hv, hx, hu, f1, f2 => by
    simp only [DK.ok, Bool.and_eq_true] at h
    simp only [fitD, ledD, Bool.and_eq_true] at f1 f2
    rw [joinD, ledD, ledD, ledD, join_led h.1 hv.1 hx.1 hu.1 f1.1 f2.1, join_led h.2 hv.2 hx.2 hu.2 f1.2 f2.2]
  | .either a b, .left v, .left (.left x), .right w, _, _, _, _, _, _ => rfl
  | .either a b, .left v, .left (.right x), .right w, _, _, _, _, _, _ => rfl
  | .either a b, .left v, .right x, .right w, _, _, _, _, _, _ => rfl
  | .either a b, .right v, .left (.left x), .right w, _, _, _, _, _, _ => rfl
  | .either a b, .right v, .left (.right x), .right w, _, _, _, _, _, _ => rfl
  | .either a b, .right v, .right x, .right w, _, _, _, _, _, _ => rfl
  | .either a b, .left v, .right w, .left (.left u), _, _, _, _, _, _ => rfl
  | .either a b, .left v, .right w, .left (.right u), _, _, _, _, _, _ => rfl
  | .either a b, .right v, .right w, .left (.left u), _, _, _, _, _, _ => rfl
  | .either a b, .right v, .right w, .left (.right u), _, _, _, _, _, _ => rfl
  | .either a b, .left v, .left (.left x), .left (.left u), h, hv, hx, hu, f1, f2 => by
    simp only [DK.ok, Bool.and_eq_true] at h
    simp only [fitD, ledD] at f1 f2
    rw [joinD, ledD, ledD, ledD, join_led (c := a) h.1 hv hx hu f1 f2]
  | .either a b, .right v, .left (.right x), .left (.right u), h, hv, hx, hu, f1, f2 => by
    simp only [DK.ok, Bool.and_eq_true] at h
    simp only [fitD, ledD] at f1 f2
    rw [joinD, ledD, ledD, ledD, join_led (c := b) h.2 hv hx hu f1 f2]
  | .either a b, .left v, .left (.left x), .left (.right u), _, _, _, _, _, f2 => by simp [fitD, ledD] at f2
  | .either a b, .right v, .left (.right x), .left (.left u), _, _, _, _, _, f2 => by simp [fitD, ledD] at f2
  | .either a b, .left v, .left (.right x), .left _, _, _, _, _, f1, _ => by simp [fitD] at f1
  | .either a b, .right v, .left (.left x), .left _, _, _, _, _, f1, _ => by simp [fitD] at f1
/-- with the still change ahead -/
theorem join_still : ∀ {c : DK} {v x : DV}, c.ok = true → has c v → has (dK c) x → fitD c v x = true → joinD c (lessD c v v) x = x
  | .unit, .unit, .unit, _, _, _, _ => rfl
  | .num, .num i, .num j, _, _, _, _ => by
    show DV.num ((i + -1 * i) + j) = .num j
    congr 1
    omega
  | .bag a, .bag r, .bag s, h, hv, hx, _ => by
    have gv := Grp.of (k := .bag a) h hv
    have gx := Grp.of (k := .bag a) h hx
    show plus (plus (.bag r) (times (-1) (.bag r))) (.bag s) = .bag s
    rw [plus_opp gv, plus_comm (Grp.zero (k := .bag a) h) gx, plus_zero gx]
  | .pair a b, .pair v1 v2, .pair x1 x2, h, hv, hx, f1 => by
    simp only [DK.ok, Bool.and_eq_true] at h
    simp only [fitD, Bool.and_eq_true] at f1
    rw [lessD, joinD, join_still h.1 hv.1 hx.1 f1.1, join_still h.2 hv.2 hx.2 f1.2]
  | .either a b, .left v, .right w, _, _, _, _ => rfl
  | .either a b, .right v, .right w, _, _, _, _ => rfl
  | .either a b, .left v, .left (.left x), h, hv, hx, f1 => by
    simp only [DK.ok, Bool.and_eq_true] at h
    simp only [fitD] at f1
    rw [lessD, joinD, join_still (c := a) h.1 hv hx f1]
  | .either a b, .right v, .left (.right x), h, hv, hx, f1 => by
    simp only [DK.ok, Bool.and_eq_true] at h
    simp only [fitD] at f1
    rw [lessD, joinD, join_still (c := b) h.2 hv hx f1]
  | .either a b, .left v, .left (.right x), _, _, _, f1 => by simp [fitD] at f1
  | .either a b, .right v, .left (.left x), _, _, _, f1 => by simp [fitD] at f1
/-- and behind -/
theorem join_still2 : ∀ {c : DK} {v x : DV}, c.ok = true → has c v → has (dK c) x → fitD c v x = true → joinD c x (lessD c (ledD c v x) (ledD c v x)) = x
  | .unit, .unit, .unit, _, _, _, _ => rfl
  | .num, .num i, .num j, _, _, _, _ => by
    show DV.num (j + ((i + j) + -1 * (i + j))) = .num j
    congr 1
    omega
  | .bag a, .bag r, .bag s, h, hv, hx, _ => by
    have gv := Grp.of (k := .bag a) h hv
    have gx := Grp.of (k := .bag a) h hx
    show plus (.bag s) (plus (plus (.bag r) (.bag s)) (times (-1) (plus (.bag r) (.bag s)))) = .bag s
    rw [plus_opp (gv.plus gx), plus_zero gx]
  | .pair a b, .pair v1 v2, .pair x1 x2, h, hv, hx, f1 => by
    simp only [DK.ok, Bool.and_eq_true] at h
    simp only [fitD, Bool.and_eq_true] at f1
    rw [ledD, lessD, joinD, join_still2 h.1 hv.1 hx.1 f1.1, join_still2 h.2 hv.2 hx.2 f1.2]
  | .either a b, .left v, .right (.left w), h, hv, hx, _ => by
    simp only [DK.ok, Bool.and_eq_true] at h
    have hw : has a w := hx
    show DV.right (.left (ledD a w (lessD a w w))) = _
    rw [less_led h.1 hw hw]
  | .either a b, .left v, .right (.right w), h, hv, hx, _ => by
    simp only [DK.ok, Bool.and_eq_true] at h
    have hw : has b w := hx
    show DV.right (.right (ledD b w (lessD b w w))) = _
    rw [less_led h.2 hw hw]
  | .either a b, .right v, .right (.left w), h, hv, hx, _ => by
    simp only [DK.ok, Bool.and_eq_true] at h
    have hw : has a w := hx
    show DV.right (.left (ledD a w (lessD a w w))) = _
    rw [less_led h.1 hw hw]
  | .either a b, .right v, .right (.right w), h, hv, hx, _ => by
    simp only [DK.ok, Bool.and_eq_true] at h
    have hw : has b w := hx
    show DV.right (.right (ledD b w (lessD b w w))) = _
    rw [less_led h.2 hw hw]
  | .either a b, .left v, .left (.left x), h, hv, hx, f1 => by
    simp only [DK.ok, Bool.and_eq_true] at h
    simp only [fitD] at f1
    rw [ledD, lessD, joinD, join_still2 (c := a) h.1 hv hx f1]
  | .either a b, .right v, .left (.right x), h, hv, hx, f1 => by
    simp only [DK.ok, Bool.and_eq_true] at h
    simp only [fitD] at f1
    rw [ledD, lessD, joinD, join_still2 (c := b) h.2 hv hx f1]
  | .either a b, .left v, .left (.right x), _, _, _, f1 => by simp [fitD] at f1
  | .either a b, .right v, .left (.left x), _, _, _, f1 => by simp [fitD] at f1
theorem join_assoc : ∀ {c : DK} {v x u z : DV}, c.ok = true → has c v → has (dK c) x → has (dK c) u → has (dK c) z → fitD c v x = true → fitD c (ledD c v x) u = true → fitD c (ledD c (ledD c v x) u) z = true →
    joinD c x (joinD c u z) = joinD c (joinD c x u) z
  | .unit, .unit, .unit, .unit, .unit, _, _, _, _, _, _, _, _ => rfl
  | .num, .num i, .num j, .num l, .num m, _, _, _, _, _, _, _, _ => (plus_assoc (.num j) (.num l) (.num m)).symm
  | .bag a, .bag r, .bag s, .bag t, .bag q, h, hv, hx, hu, hz, _, _, _ => (plus_assoc (Grp.of (k := .bag a) h hx) (Grp.of (k := .bag a) h hu) (Grp.of (k := .bag a) h hz)).symm
  | .pair a b, .pair v1 v2, .pair x1 x2, .pair u1 u2, .pair z1 z2, h, hv, hx, hu, hz, f1, f2, f3 => by
    simp only [DK.ok, Bool.and_eq_true] at h
    simp only [fitD, ledD, Bool.and_eq_true] at f1 f2 f3
    simp only [joinD]
    rw [join_assoc h.1 hv.1 hx.1 hu.1 hz.1 f1.1 f2.1 f3.1, join_assoc h.2 hv.2 hx.2 hu.2 hz.2 f1.2 f2.2 f3.2]
  | .either a b, v, x, u, .right w, h, hv, hx, hu, hz, f1, f2, f3 => by
    have e : ∀ y : DV, joinD (.either a b) y (.right w) = .right w := fun y => by cases y <;> rfl
    rw [e, e, e]
  | .either a b, v, x, .right w, .left z, h, hv, hx, hu, hz, f1, f2, f3 => by
    have e : ∀ y : DV, joinD (.either a b) y (.right w) = .right w := fun y => by cases y <;> rfl
    have e2 : joinD (.either a b) (.right w) (.left z) = .right (ledD (.either a b) w (.left z)) := by cases z <;> rfl
    have e3 : ∀ y : DV, joinD (.either a b) x (.right y) = .right y := fun y => by cases x <;> rfl
    rw [e, e2, e3]
  | .either a b, v, .right w, .left (.left u), .left (.left z), h, hv, hx, hu, hz, f1, f2, f3 => by
    have f2' : fitD (.either a b) w (.left (.left u)) = true := by cases v <;> exact f2
    have f3' : fitD (.either a b) (ledD (.either a b) w (.left (.left u))) (.left (.left z)) = true := by cases v <;> exact f3
    show DV.right (ledD (.either a b) w (joinD (.either a b) (.left (.left u)) (.left (.left z)))) = .right (ledD (.either a b) (ledD (.either a b) w (.left (.left u))) (.left (.left z)))
    rw [join_led h hx hu hz f2' f3']
  | .either a b, v, .right w, .left (.right u), .left (.right z), h, hv, hx, hu, hz, f1, f2, f3 => by
    have f2' : fitD (.either a b) w (.left (.right u)) = true := by cases v <;> exact f2
    have f3' : fitD (.either a b) (ledD (.either a b) w (.left (.right u))) (.left (.right z)) = true := by cases v <;> exact f3
    show DV.right (ledD (.either a b) w (joinD (.either a b) (.left (.right u)) (.left (.right z)))) = .right (ledD (.either a b) (ledD (.either a b) w (.left (.right u))) (.left (.right z)))
    rw [join_led h hx hu hz f2' f3']
  | .either a b, v, .right w, .left (.left u), .left (.right z), h, hv, hx, hu, hz, f1, f2, f3 => by
    have f2' : fitD (.either a b) w (.left (.left u)) = true := by cases v <;> exact f2
    have f3' : fitD (.either a b) (ledD (.either a b) w (.left (.left u))) (.left (.right z)) = true := by cases v <;> exact f3
    cases w <;> simp [fitD, ledD] at f2' f3'
  | .either a b, v, .right w, .left (.right u), .left (.left z), h, hv, hx, hu, hz, f1, f2, f3 => by
    have f2' : fitD (.either a b) w (.left (.right u)) = true := by cases v <;> exact f2
    have f3' : fitD (.either a b) (ledD (.either a b) w (.left (.right u))) (.left (.left z)) = true := by cases v <;> exact f3
    cases w <;> simp [fitD, ledD] at f2' f3'
  | .either a b, .left v, .left (.left x), .left (.left u), .left (.left z), h, hv, hx, hu, hz, f1, f2, f3 => by
    simp only [DK.ok, Bool.and_eq_true] at h
    simp only [fitD, ledD] at f1 f2 f3
    simp only [joinD]
    rw [join_assoc (c := a) h.1 hv hx hu hz f1 f2 f3]
  | .either a b, .right v, .left (.right x), .left (.right u), .left (.right z), h, hv, hx, hu, hz, f1, f2, f3 => by
    simp only [DK.ok, Bool.and_eq_true] at h
    simp only [fitD, ledD] at f1 f2 f3
    simp only [joinD]
    rw [join_assoc (c := b) h.2 hv hx hu hz f1 f2 f3]
  | .either a b, .left v, .left (.right x), .left _, .left _, _, _, _, _, _, f1, _, _ => by simp [fitD] at f1
  | .either a b, .right v, .left (.left x), .left _, .left _, _, _, _, _, _, f1, _, _ => by simp [fitD] at f1
  | .either a b, .left v, .left (.left x), .left (.right u), .left _, _, _, _, _, _, _, f2, _ => by simp [fitD, ledD] at f2
  | .either a b, .right v, .left (.right x), .left (.left u), .left _, _, _, _, _, _, _, f2, _ => by simp [fitD, ledD] at f2
  | .either a b, .left v, .left (.left x), .left (.left u), .left (.right z), _, _, _, _, _, _, _, f3 => by simp [fitD, ledD] at f3
  | .either a b, .right v, .left (.right x), .left (.right u), .left (.left z), _, _, _, _, _, _, _, f3 => by simp [fitD, ledD] at f3
end N25
end
section
open M
local macro_rules | `(tactic| walk_at "q1") => `(tactic| (first
  | with_reducible refine q_seq ?_ | with_reducible refine q_sif ?_ | with_reducible refine q_asg ?_ | with_reducible refine q_ret ?_ | with_reducible refine q_next ?_ | with_reducible refine q_drop ?_ | with_reducible refine q_for ?_ | with_reducible refine q_par ?_ | with_reducible refine q_par3 ?_
  | ((with_reducible refine' q_var ?k1 ?_); (case k1 => rfl)) | with_reducible refine q_c ?_ | with_reducible refine q_op ?_ | with_reducible refine q_un ?_ | with_reducible refine q_cons ?_ | with_reducible refine q_nil ?_ | with_reducible refine q_cb ?_ | with_reducible refine q_ty ?_
  | with_reducible refine q_test ?_ | with_reducible refine q_if ?_ | with_reducible refine q_tup ?_ | with_reducible refine q_lst ?_ | with_reducible refine q_and ?_ | with_reducible refine q_or ?_ | with_reducible refine q_not ?_ | with_reducible refine q_andV ?_ | with_reducible refine q_orV ?_ | with_reducible refine q_notV ?_
  | with_reducible refine q_call ?_ | with_reducible refine q_callN ?_ | with_reducible refine q_sl ?_ | with_reducible refine q_onone ?_ | with_reducible refine q_osome ?_ | with_reducible refine q_gname ?_ | with_reducible refine q_gcons ?_ | with_reducible refine q_gnil ?_ | with_reducible refine q_gconsM ?_ | with_reducible refine q_gnilM ?_ | with_reducible refine q_gsub ?_ | ((with_reducible refine' q_gtup ?k1 ?_); (case k1 => rfl))
  | with_reducible refine q_leave ?_ | with_reducible refine q_yes ?_ | with_reducible refine q_it ?_ | with_reducible refine q_if0 ?_ | with_reducible refine q_iR1 ?_ | with_reducible refine q_lstC ?_ | with_reducible refine q_tru ?_ | with_reducible refine q_lc ?_
  | with_reducible refine RP.eq paddi ?_ | with_reducible refine RP.eq psubi ?_ | with_reducible refine RP.eq pinti ?_ | with_reducible refine RP.eq pintb ?_ | with_reducible refine RP.eq pabsi ?_ | with_reducible refine RP.eq pnegi ?_ | with_reducible refine RP.eq peqs ?_ | with_reducible refine RP.eq peqi ?_
  | with_reducible refine RP.eq pnes ?_ | with_reducible refine RP.eq pnei ?_ | with_reducible refine RP.eq pgti ?_ | with_reducible refine RP.eq plei ?_ | with_reducible refine RP.eq pgei ?_ | with_reducible refine RP.eq plti ?_ | with_reducible refine RP.eq plent ?_ | with_reducible refine RP.eq plenl ?_
  | with_reducible refine RP.eq psltt ?_ | with_reducible refine RP.eq psltl ?_
  | ((with_reducible refine' RP.eq (pmuli ?k1) ?_); (case k1 => first | (unfold L2.CMul; omega) | (unfold L2.CMul; decide))) | ((with_reducible refine' RP.eq (pmodi ?k1) ?_); (case k1 => first | omega | decide)) | ((with_reducible refine' RP.eq (pfdivi ?k1) ?_); (case k1 => unfold L2.CDiv; omega)) | ((with_reducible refine' RP.eq (pdivmodi ?k1) ?_); (case k1 => unfold L2.CDiv; omega)) | ((with_reducible refine' RP.eq (pdivmodWi ?k1 ?k2) ?_); (case k1 => omega); (case k2 => omega)) | ((with_reducible refine' RP.eq (ppowi ?k1) ?_); (case k1 => unfold L2.CPow; decide))
  | with_reducible refine q_asB ?_ | ((with_reducible refine' q_allD ?k1 ?_); (case k1 => rfl))
  | with_reducible refine Z.r_nt ?_ | with_reducible refine Z.r_nf ?_
  | with_reducible refine RP.eq isi_int_none ?_ | with_reducible refine RP.eq isi_int_bool ?_ | with_reducible refine RP.eq isi_int_int ?_ | with_reducible refine RP.eq isi_int_str ?_ | with_reducible refine RP.eq isi_int_tuple ?_ | with_reducible refine RP.eq isi_int_list ?_ | with_reducible refine RP.eq isi_bool_none ?_ | with_reducible refine RP.eq isi_bool_bool ?_ | with_reducible refine RP.eq isi_bool_int ?_ | with_reducible refine RP.eq isi_bool_str ?_ | with_reducible refine RP.eq isi_bool_tuple ?_ | with_reducible refine RP.eq isi_bool_list ?_ | with_reducible refine RP.eq isi_tuple_none ?_ | with_reducible refine RP.eq isi_tuple_bool ?_ | with_reducible refine RP.eq isi_tuple_int ?_ | with_reducible refine RP.eq isi_tuple_str ?_ | with_reducible refine RP.eq isi_tuple_tuple ?_ | with_reducible refine RP.eq isi_tuple_list ?_ | with_reducible refine RP.eq isi_str_none ?_ | with_reducible refine RP.eq isi_str_bool ?_ | with_reducible refine RP.eq isi_str_int ?_ | with_reducible refine RP.eq isi_str_str ?_ | with_reducible refine RP.eq isi_str_tuple ?_ | with_reducible refine RP.eq isi_str_list ?_ | with_reducible refine RP.eq isi_list_none ?_ | with_reducible refine RP.eq isi_list_bool ?_ | with_reducible refine RP.eq isi_list_int ?_ | with_reducible refine RP.eq isi_list_str ?_ | with_reducible refine RP.eq isi_list_tuple ?_ | with_reducible refine RP.eq isi_list_list ?_
  | with_reducible refine RP.eq isi_int ?_ | with_reducible refine RP.eq isi_bool ?_ | with_reducible refine RP.eq isi_tuple ?_ | with_reducible refine RP.eq isi_str ?_ | with_reducible refine RP.eq isi_list ?_
  | ((with_reducible refine' q_len ?k1 ?_); (case k1 => rfl)) | ((with_reducible refine' RP.eq (paddt ?k1) ?_); (case k1 => exact Nat.le_of_ble_eq_true rfl))
  | ((with_reducible refine' q_lcons ?k1 ?_); (case k1 => rfl)) | ((with_reducible refine' q_lnil ?k1 ?_); (case k1 => rfl)) | with_reducible refine q_tab ?_ | with_reducible refine q_isTab ?_ | with_reducible refine q_noTab ?_ | with_reducible refine q_str1 ?_ | with_reducible refine q_int1 ?_
  | with_reducible refine RP.eq ptuplel ?_
  | with_reducible refine RP.eq pix0 ?_ | with_reducible refine RP.eq pix1 ?_ | with_reducible refine RP.eq pix2 ?_))
local macro_rules | `(tactic| walk_at "qq") => `(tactic| repeat walk_at "q1")
local macro_rules | `(tactic| walk_at "cell") => `(tactic| first | assumption | (apply M.set_at; walk_at "cell"))
local macro_rules | `(tactic| walk_at "qc") => `(tactic| repeat (first
  | walk_at "q1"
  | ((refine' M.cIx ?k1 ?k2 ?_); (case k1 => walk_at "cell"); (case k2 => rfl))
  | ((refine' M.cSet ?k1 ?k2 ?_); (case k1 => walk_at "cell"); (case k2 => rfl))))
local macro_rules | `(tactic| walk_at "ks") => `(tactic| first | (refine M.q_dec (fun hs => absurd hs (by decide +kernel)) (fun _ => ?_)) | (refine M.q_dec (fun _ => ?_) (fun hs => absurd rfl hs)) | (refine M.q_ndec (fun _ => ?_) (fun hs => absurd hs (by decide +kernel))) | (refine M.q_ndec (fun hs => absurd rfl hs) (fun _ => ?_)))
local macro_rules | `(tactic| walk_at "qk") => `(tactic| repeat (first
  | walk_at "q1"
  | ((refine' M.cIx ?k1 ?k2 ?_); (case k1 => walk_at "cell"); (case k2 => rfl))
  | ((refine' M.cSet ?k1 ?k2 ?_); (case k1 => walk_at "cell"); (case k2 => rfl))
  | walk_at "ks"))
namespace N25
open PySem PySem.Spec PyProof.Rows L2 Z M
theorem joinedin_R {a b : DK} {v x w : DV} {N : Nat} {C : Cells} (hN : 2 ≤ N) : m_joined_in N [.d (encK (.either a b)), .d (encD v), .d (encD x), .d (encD (.right w))] C = some (.d (encD (.right w)), C) := by
  obtain ⟨n, rfl⟩ : ∃ n, N = n + 2 := ⟨N - 2, by omega⟩
  refine RE.to (q_fun rfl ?_)
  simp only [encK, Z.encD]
  walk_at "qk"
  refine ⟨rfl, q_fun rfl ?_⟩
  walk_at "qk"
  simp only [List.take_length]
  exact ⟨trivial, trivial⟩
theorem joinedin_RL {a b : DK} {v w t : DV} {N : Nat} {C : Cells} {B : Nat} (ho : (DK.either a b).ok = true) (hk : kd (.either a b) ≤ 20) (hN : 2 * kd (.either a b) + 6 ≤ N) (hx : has (.either a b) w) (hu : has (dK (.either a b)) (.left t)) (fx : fits 50 B w) (fu : fits 50 B (.left t)) :
    m_joined_in N [.d (encK (.either a b)), .d (encD v), .d (encD (.right w)), .d (encD (.left t))] C = some (.d (encD (.right (ledD (.either a b) w (.left t)))), C) := by
  obtain ⟨n, rfl⟩ : ∃ n, N = n + 2 := ⟨N - 2, by omega⟩
  refine RE.to (q_fun rfl ?_)
  simp only [encK, Z.encD]
  walk_at "qk"
  refine ⟨rfl, q_fun rfl ?_⟩
  walk_at "qk"
  refine ⟨rfl, RE.eq (ledin_ok (.either a b) (x := w) (u := .left t) (B := B) ho (by omega) (by omega) hx hu fx fu) ?_⟩
  walk_at "qk"
  simp only [List.take_length]
  exact ⟨trivial, trivial⟩
theorem joinedin_ok : ∀ (c : DK) {v x u : DV} {N : Nat} {C : Cells} {B : Nat}, c.ok = true → kd c ≤ 20 → 2 * kd c + 6 ≤ N → has c v → has (dK c) x → has (dK c) u → fitD c v x = true → fitD c (ledD c v x) u = true → fits 50 B x → fits 50 B u →
    m_joined_in N [.d (encK c), .d (encD v), .d (encD x), .d (encD u)] C = some (.d (encD (joinD c x u)), C)
  | .unit, .unit, .unit, .unit, N, C, B, ho, hk, hN, hv, hx, hu, f1, f2, fx, fu => by
    obtain ⟨n, rfl⟩ : ∃ n, N = n + 1 := ⟨N - 1, by omega⟩
    refine RE.to (q_fun rfl ?_)
    simp only [encK, Z.encD]
    walk_at "qk"
    rw [List.take_length]
    exact ⟨rfl, rfl⟩
  | .num, .num i, .num j, .num l, N, C, B, ho, hk, hN, hv, hx, hu, f1, f2, fx, fu => by
    obtain ⟨n, rfl⟩ : ∃ n, N = n + 1 := ⟨N - 1, by omega⟩
    simp only [kd] at hN
    refine RE.to (q_fun rfl ?_)
    simp only [encK, Z.encD]
    walk_at "qk"
    refine ⟨rfl, RE.eq (plusin_ok (c := .num) (x := .num j) (y := .num l) (B := B) (by simp only [kd]; omega) (by decide) (.num j) (.num l) fx fu) ?_⟩
    refine ⟨_, _, rfl, ?_⟩
    rw [List.take_length]
    exact ⟨rfl, rfl⟩
  | .bag a, .bag r, .bag s, .bag q, N, C, B, ho, hk, hN, hv, hx, hu, f1, f2, fx, fu => by
    obtain ⟨n, rfl⟩ : ∃ n, N = n + 1 := ⟨N - 1, by omega⟩
    simp only [kd] at hN hk
    refine RE.to (q_fun rfl ?_)
    simp only [encK, Z.encD]
    walk_at "qk"
    refine ⟨rfl, RE.eq (plusin_ok (c := .bag a) (x := .bag s) (y := .bag q) (B := B) (by simp only [kd]; omega) (by simp only [kd]; omega) (Grp.of (k := .bag a) ho hx) (Grp.of (k := .bag a) ho hu) (fits.mono (v := .bag s) (by decide) (Nat.le_refl _) fx) (fits.mono (v := .bag q) (by decide) (Nat.le_refl _) fu)) ?_⟩
    refine ⟨_, _, rfl, ?_⟩
    rw [List.take_length]
    exact ⟨rfl, rfl⟩
  | .pair a b, .pair v1 v2, .pair x1 x2, .pair u1 u2, N, C, B, ho, hk, hN, hv, hx, hu, f1, f2, fx, fu => by
    obtain ⟨n, rfl⟩ : ∃ n, N = n + 1 := ⟨N - 1, by omega⟩
    simp only [kd] at hN hk
    simp only [DK.ok, Bool.and_eq_true] at ho
    simp only [fitD, ledD, Bool.and_eq_true] at f1 f2
    refine RE.to (q_fun rfl ?_)
    simp only [encK, Z.encD]
    walk_at "qk"
    refine ⟨rfl, RE.eq (joinedin_ok a ho.1 (by omega) (by omega) hv.1 hx.1 hu.1 f1.1 f2.1 fx.1 fu.1) ?_⟩
    walk_at "qk"
    refine ⟨rfl, RE.eq (joinedin_ok b ho.2 (by omega) (by omega) hv.2 hx.2 hu.2 f1.2 f2.2 fx.2 fu.2) ?_⟩
    walk_at "qk"
    rw [List.take_length]
    exact ⟨rfl, rfl⟩
  | .either a b, .left v, .left (.left x), .right w, N, C, B, ho, hk, hN, hv, hx, hu, f1, f2, fx, fu => joinedin_R (by omega)
  | .either a b, .left v, .left (.right x), .right w, N, C, B, ho, hk, hN, hv, hx, hu, f1, f2, fx, fu => joinedin_R (by omega)
  | .either a b, .left v, .right x, .right w, N, C, B, ho, hk, hN, hv, hx, hu, f1, f2, fx, fu => joinedin_R (by omega)
  | .either a b, .left v, .right w, .left (.left u), N, C, B, ho, hk, hN, hv, hx, hu, f1, f2, fx, fu => joinedin_RL (B := B) ho hk hN hx hu fx fu
  | .either a b, .left v, .right w, .left (.right u), N, C, B, ho, hk, hN, hv, hx, hu, f1, f2, fx, fu => joinedin_RL (B := B) ho hk hN hx hu fx fu
  | .either a b, .right v, .left (.left x), .right w, N, C, B, ho, hk, hN, hv, hx, hu, f1, f2, fx, fu => joinedin_R (by omega)
  | .either a b, .right v, .left (.right x), .right w, N, C, B, ho, hk, hN, hv, hx, hu, f1, f2, fx, fu => joinedin_R (by omega)
  | .either a b, .right v, .right x, .right w, N, C, B, ho, hk, hN, hv, hx, hu, f1, f2, fx, fu => joinedin_R (by omega)
  | .either a b, .right v, .right w, .left (.left u), N, C, B, ho, hk, hN, hv, hx, hu, f1, f2, fx, fu => joinedin_RL (B := B) ho hk hN hx hu fx fu
  | .either a b, .right v, .right w, .left (.right u), N, C, B, ho, hk, hN, hv, hx, hu, f1, f2, fx, fu => joinedin_RL (B := B) ho hk hN hx hu fx fu
  | .either a b, .left v, .left (.left x), .left (.left u), N, C, B, ho, hk, hN, hv, hx, hu, f1, f2, fx, fu => by
    obtain ⟨n, rfl⟩ : ∃ n, N = n + 2 := ⟨N - 2, by omega⟩
    simp only [kd] at hN hk
    simp only [DK.ok, Bool.and_eq_true] at ho
    simp only [fitD, ledD] at f1 f2
    refine RE.to (q_fun rfl ?_)
    simp only [encK, Z.encD]
    walk_at "qk"
    refine ⟨rfl, q_fun rfl ?_⟩
    walk_at "qk"
    refine ⟨rfl, RE.eq (sidekL (a := a) (b := b) (x := v) (by omega)) ?_⟩
    walk_at "qk"
    refine ⟨rfl, RE.eq (joinedin_ok a ho.1 (by omega) (by omega) hv hx hu f1 f2 fx fu) ?_⟩
    walk_at "qk"
    simp only [List.take_length]
    exact ⟨rfl, trivial⟩
  | .either a b, .right v, .left (.right x), .left (.right u), N, C, B, ho, hk, hN, hv, hx, hu, f1, f2, fx, fu => by
    obtain ⟨n, rfl⟩ : ∃ n, N = n + 2 := ⟨N - 2, by omega⟩
    simp only [kd] at hN hk
    simp only [DK.ok, Bool.and_eq_true] at ho
    simp only [fitD, ledD] at f1 f2
    refine RE.to (q_fun rfl ?_)
    simp only [encK, Z.encD]
    walk_at "qk"
    refine ⟨rfl, q_fun rfl ?_⟩
    walk_at "qk"
    refine ⟨rfl, RE.eq (sidekR (a := a) (b := b) (x := v) (by omega)) ?_⟩
    walk_at "qk"
    refine ⟨rfl, RE.eq (joinedin_ok b ho.2 (by omega) (by omega) hv hx hu f1 f2 fx fu) ?_⟩
    walk_at "qk"
    simp only [List.take_length]
    exact ⟨rfl, trivial⟩
  | .either a b, .left v, .left (.right x), .left _, _, _, _, _, _, _, _, _, _, f1, f2, _, _ => by simp [fitD] at f1
  | .either a b, .right v, .left (.left x), .left _, _, _, _, _, _, _, _, _, _, f1, f2, _, _ => by simp [fitD] at f1
  | .either a b, .left v, .left (.left x), .left (.right u), _, _, _, _, _, _, _, _, _, f1, f2, _, _ => by simp [fitD, ledD] at f2
  | .either a b, .right v, .left (.right x), .left (.left u), _, _, _, _, _, _, _, _, _, f1, f2, _, _ => by simp [fitD, ledD] at f2
end N25
end
section
open M
local macro_rules | `(tactic| walk_at "q1") => `(tactic| (first
  | with_reducible refine q_seq ?_ | with_reducible refine q_sif ?_ | with_reducible refine q_asg ?_ | with_reducible refine q_ret ?_ | with_reducible refine q_next ?_ | with_reducible refine q_drop ?_ | with_reducible refine q_for ?_ | with_reducible refine q_par ?_ | with_reducible refine q_par3 ?_
  | ((with_reducible refine' q_var ?k1 ?_); (case k1 => rfl)) | with_reducible refine q_c ?_ | with_reducible refine q_op ?_ | with_reducible refine q_un ?_ | with_reducible refine q_cons ?_ | with_reducible refine q_nil ?_ | with_reducible refine q_cb ?_ | with_reducible refine q_ty ?_
  | with_reducible refine q_test ?_ | with_reducible refine q_if ?_ | with_reducible refine q_tup ?_ | with_reducible refine q_lst ?_ | with_reducible refine q_and ?_ | with_reducible refine q_or ?_ | with_reducible refine q_not ?_ | with_reducible refine q_andV ?_ | with_reducible refine q_orV ?_ | with_reducible refine q_notV ?_
  | with_reducible refine q_call ?_ | with_reducible refine q_callN ?_ | with_reducible refine q_sl ?_ | with_reducible refine q_onone ?_ | with_reducible refine q_osome ?_ | with_reducible refine q_gname ?_ | with_reducible refine q_gcons ?_ | with_reducible refine q_gnil ?_ | with_reducible refine q_gconsM ?_ | with_reducible refine q_gnilM ?_ | with_reducible refine q_gsub ?_ | ((with_reducible refine' q_gtup ?k1 ?_); (case k1 => rfl))
  | with_reducible refine q_leave ?_ | with_reducible refine q_yes ?_ | with_reducible refine q_it ?_ | with_reducible refine q_if0 ?_ | with_reducible refine q_iR1 ?_ | with_reducible refine q_lstC ?_ | with_reducible refine q_tru ?_ | with_reducible refine q_lc ?_
  | with_reducible refine RP.eq paddi ?_ | with_reducible refine RP.eq psubi ?_ | with_reducible refine RP.eq pinti ?_ | with_reducible refine RP.eq pintb ?_ | with_reducible refine RP.eq pabsi ?_ | with_reducible refine RP.eq pnegi ?_ | with_reducible refine RP.eq peqs ?_ | with_reducible refine RP.eq peqi ?_
  | with_reducible refine RP.eq pnes ?_ | with_reducible refine RP.eq pnei ?_ | with_reducible refine RP.eq pgti ?_ | with_reducible refine RP.eq plei ?_ | with_reducible refine RP.eq pgei ?_ | with_reducible refine RP.eq plti ?_ | with_reducible refine RP.eq plent ?_ | with_reducible refine RP.eq plenl ?_
  | with_reducible refine RP.eq psltt ?_ | with_reducible refine RP.eq psltl ?_
  | ((with_reducible refine' RP.eq (pmuli ?k1) ?_); (case k1 => first | (unfold L2.CMul; omega) | (unfold L2.CMul; decide))) | ((with_reducible refine' RP.eq (pmodi ?k1) ?_); (case k1 => first | omega | decide)) | ((with_reducible refine' RP.eq (pfdivi ?k1) ?_); (case k1 => unfold L2.CDiv; omega)) | ((with_reducible refine' RP.eq (pdivmodi ?k1) ?_); (case k1 => unfold L2.CDiv; omega)) | ((with_reducible refine' RP.eq (pdivmodWi ?k1 ?k2) ?_); (case k1 => omega); (case k2 => omega)) | ((with_reducible refine' RP.eq (ppowi ?k1) ?_); (case k1 => unfold L2.CPow; decide))
  | with_reducible refine q_asB ?_ | ((with_reducible refine' q_allD ?k1 ?_); (case k1 => rfl))
  | with_reducible refine Z.r_nt ?_ | with_reducible refine Z.r_nf ?_
  | with_reducible refine RP.eq isi_int_none ?_ | with_reducible refine RP.eq isi_int_bool ?_ | with_reducible refine RP.eq isi_int_int ?_ | with_reducible refine RP.eq isi_int_str ?_ | with_reducible refine RP.eq isi_int_tuple ?_ | with_reducible refine RP.eq isi_int_list ?_ | with_reducible refine RP.eq isi_bool_none ?_ | with_reducible refine RP.eq isi_bool_bool ?_ | with_reducible refine RP.eq isi_bool_int ?_ | with_reducible refine RP.eq isi_bool_str ?_ | with_reducible refine RP.eq isi_bool_tuple ?_ | with_reducible refine RP.eq isi_bool_list ?_ | with_reducible refine RP.eq isi_tuple_none ?_ | with_reducible refine RP.eq isi_tuple_bool ?_ | with_reducible refine RP.eq isi_tuple_int ?_ | with_reducible refine RP.eq isi_tuple_str ?_ | with_reducible refine RP.eq isi_tuple_tuple ?_ | with_reducible refine RP.eq isi_tuple_list ?_ | with_reducible refine RP.eq isi_str_none ?_ | with_reducible refine RP.eq isi_str_bool ?_ | with_reducible refine RP.eq isi_str_int ?_ | with_reducible refine RP.eq isi_str_str ?_ | with_reducible refine RP.eq isi_str_tuple ?_ | with_reducible refine RP.eq isi_str_list ?_ | with_reducible refine RP.eq isi_list_none ?_ | with_reducible refine RP.eq isi_list_bool ?_ | with_reducible refine RP.eq isi_list_int ?_ | with_reducible refine RP.eq isi_list_str ?_ | with_reducible refine RP.eq isi_list_tuple ?_ | with_reducible refine RP.eq isi_list_list ?_
  | with_reducible refine RP.eq isi_int ?_ | with_reducible refine RP.eq isi_bool ?_ | with_reducible refine RP.eq isi_tuple ?_ | with_reducible refine RP.eq isi_str ?_ | with_reducible refine RP.eq isi_list ?_
  | ((with_reducible refine' q_len ?k1 ?_); (case k1 => rfl)) | ((with_reducible refine' RP.eq (paddt ?k1) ?_); (case k1 => exact Nat.le_of_ble_eq_true rfl))
  | ((with_reducible refine' q_lcons ?k1 ?_); (case k1 => rfl)) | ((with_reducible refine' q_lnil ?k1 ?_); (case k1 => rfl)) | with_reducible refine q_tab ?_ | with_reducible refine q_isTab ?_ | with_reducible refine q_noTab ?_ | with_reducible refine q_str1 ?_ | with_reducible refine q_int1 ?_
  | with_reducible refine RP.eq ptuplel ?_
  | with_reducible refine RP.eq pix0 ?_ | with_reducible refine RP.eq pix1 ?_ | with_reducible refine RP.eq pix2 ?_))
local macro_rules | `(tactic| walk_at "qq") => `(tactic| repeat walk_at "q1")
local macro_rules | `(tactic| walk_at "cell") => `(tactic| first | assumption | (apply M.set_at; walk_at "cell"))
local macro_rules | `(tactic| walk_at "qc") => `(tactic| repeat (first
  | walk_at "q1"
  | ((refine' M.cIx ?k1 ?k2 ?_); (case k1 => walk_at "cell"); (case k2 => rfl))
  | ((refine' M.cSet ?k1 ?k2 ?_); (case k1 => walk_at "cell"); (case k2 => rfl))))
local macro_rules | `(tactic| walk_at "ks") => `(tactic| first | (refine M.q_dec (fun hs => absurd hs (by decide +kernel)) (fun _ => ?_)) | (refine M.q_dec (fun _ => ?_) (fun hs => absurd rfl hs)) | (refine M.q_ndec (fun _ => ?_) (fun hs => absurd hs (by decide +kernel))) | (refine M.q_ndec (fun hs => absurd rfl hs) (fun _ => ?_)))
local macro_rules | `(tactic| walk_at "qk") => `(tactic| repeat (first
  | walk_at "q1"
  | ((refine' M.cIx ?k1 ?k2 ?_); (case k1 => walk_at "cell"); (case k2 => rfl))
  | ((refine' M.cSet ?k1 ?k2 ?_); (case k1 => walk_at "cell"); (case k2 => rfl))
  | walk_at "ks"))
namespace N25
open PySem PySem.Spec PyProof.Rows L2 Z M
theorem ljoin_R {a b : DK} {x w : DV} {N : Nat} {C : Cells} (hN : 1 ≤ N) : m__law_joined N [.d (encK (.either a b)), .d (encD x), .d (encD (.right w))] C = some (.d (encD (.right w)), C) := by
  obtain ⟨n, rfl⟩ : ∃ n, N = n + 1 := ⟨N - 1, by omega⟩
  refine RE.to (q_fun rfl ?_)
  simp only [encK, Z.encD]
  walk_at "qk"
  refine RP.eq pin_either ?_
  walk_at "qk"
  rw [List.take_length]
  exact ⟨rfl, rfl⟩
theorem ljoin_RL {a b : DK} {w t : DV} {N : Nat} {C : Cells} {B : Nat} (ho : (DK.either a b).ok = true) (hk : kd (.either a b) ≤ 8) (hN : kd (.either a b) + 4 ≤ N) (hx : has (.either a b) w) (hu : has (dK (.either a b)) (.left t)) (fx : fits 25 B w) (fu : fits 25 B (.left t)) :
    m__law_joined N [.d (encK (.either a b)), .d (encD (.right w)), .d (encD (.left t))] C = some (.d (encD (.right (ledD (.either a b) w (.left t)))), C) := by
  obtain ⟨n, rfl⟩ : ∃ n, N = n + 1 := ⟨N - 1, by omega⟩
  refine RE.to (q_fun rfl ?_)
  simp only [encK, Z.encD]
  walk_at "qk"
  refine RP.eq pin_either ?_
  walk_at "qk"
  refine ⟨rfl, RE.eq (lled_ok (.either a b) (x := w) (u := .left t) (B := B) ho (by omega) (by omega) hx hu fx fu) ?_⟩
  walk_at "qk"
  rw [List.take_length]
  exact ⟨rfl, rfl⟩
theorem ljoin_ok : ∀ (c : DK) {v x u : DV} {N : Nat} {C : Cells} {B : Nat}, c.ok = true → kd c ≤ 8 → kd c + 4 ≤ N → has c v → has (dK c) x → has (dK c) u → fitD c v x = true → fitD c (ledD c v x) u = true → fits 25 B x → fits 25 B u →
    m__law_joined N [.d (encK c), .d (encD x), .d (encD u)] C = some (.d (encD (joinD c x u)), C)
  | .unit, .unit, .unit, .unit, N, C, B, ho, hk, hN, hv, hx, hu, f1, f2, fx, fu => by
    obtain ⟨n, rfl⟩ : ∃ n, N = n + 1 := ⟨N - 1, by omega⟩
    refine RE.to (q_fun rfl ?_)
    simp only [encK, Z.encD]
    walk_at "qk"
    rw [List.take_length]
    exact ⟨rfl, rfl⟩
  | .num, .num i, .num j, .num l, N, C, B, ho, hk, hN, hv, hx, hu, f1, f2, fx, fu => by
    obtain ⟨n, rfl⟩ : ∃ n, N = n + 1 := ⟨N - 1, by omega⟩
    simp only [kd] at hN
    refine RE.to (q_fun rfl ?_)
    simp only [encK, Z.encD]
    walk_at "qk"
    refine RP.eq pin_num ?_
    walk_at "qk"
    refine ⟨rfl, RE.eq (lplus_ok (c := .num) (x := .num j) (y := .num l) (B := B) (by simp only [kd]; omega) (by decide) (.num j) (.num l) fx fu) ?_⟩
    refine ⟨_, _, rfl, ?_⟩
    rw [List.take_length]
    exact ⟨rfl, rfl⟩
  | .bag a, .bag r, .bag s, .bag q, N, C, B, ho, hk, hN, hv, hx, hu, f1, f2, fx, fu => by
    obtain ⟨n, rfl⟩ : ∃ n, N = n + 1 := ⟨N - 1, by omega⟩
    simp only [kd] at hN hk
    refine RE.to (q_fun rfl ?_)
    simp only [encK, Z.encD]
    walk_at "qk"
    refine RP.eq pin_bag ?_
    walk_at "qk"
    refine ⟨rfl, RE.eq (lplus_ok (c := .bag a) (x := .bag s) (y := .bag q) (B := B) (by simp only [kd]; omega) (by simp only [kd]; omega) (Grp.of (k := .bag a) ho hx) (Grp.of (k := .bag a) ho hu) fx fu) ?_⟩
    refine ⟨_, _, rfl, ?_⟩
    rw [List.take_length]
    exact ⟨rfl, rfl⟩
  | .pair a b, .pair v1 v2, .pair x1 x2, .pair u1 u2, N, C, B, ho, hk, hN, hv, hx, hu, f1, f2, fx, fu => by
    obtain ⟨n, rfl⟩ : ∃ n, N = n + 1 := ⟨N - 1, by omega⟩
    simp only [kd] at hN hk
    simp only [DK.ok, Bool.and_eq_true] at ho
    simp only [fitD, ledD, Bool.and_eq_true] at f1 f2
    refine RE.to (q_fun rfl ?_)
    simp only [encK, Z.encD]
    walk_at "qk"
    refine RP.eq pin_pair ?_
    walk_at "qk"
    refine ⟨rfl, RE.eq (ljoin_ok a ho.1 (by omega) (by omega) hv.1 hx.1 hu.1 f1.1 f2.1 fx.1 fu.1) ?_⟩
    walk_at "qk"
    refine ⟨rfl, RE.eq (ljoin_ok b ho.2 (by omega) (by omega) hv.2 hx.2 hu.2 f1.2 f2.2 fx.2 fu.2) ?_⟩
    walk_at "qk"
    rw [List.take_length]
    exact ⟨rfl, rfl⟩
  | .either a b, .left v, .left (.left x), .right w, N, C, B, ho, hk, hN, hv, hx, hu, f1, f2, fx, fu => ljoin_R (by omega)
  | .either a b, .left v, .left (.right x), .right w, N, C, B, ho, hk, hN, hv, hx, hu, f1, f2, fx, fu => ljoin_R (by omega)
  | .either a b, .left v, .right x, .right w, N, C, B, ho, hk, hN, hv, hx, hu, f1, f2, fx, fu => ljoin_R (by omega)
  | .either a b, .left v, .right w, .left (.left u), N, C, B, ho, hk, hN, hv, hx, hu, f1, f2, fx, fu => ljoin_RL (B := B) ho hk hN hx hu fx fu
  | .either a b, .left v, .right w, .left (.right u), N, C, B, ho, hk, hN, hv, hx, hu, f1, f2, fx, fu => ljoin_RL (B := B) ho hk hN hx hu fx fu
  | .either a b, .right v, .left (.left x), .right w, N, C, B, ho, hk, hN, hv, hx, hu, f1, f2, fx, fu => ljoin_R (by omega)
  | .either a b, .right v, .left (.right x), .right w, N, C, B, ho, hk, hN, hv, hx, hu, f1, f2, fx, fu => ljoin_R (by omega)
  | .either a b, .right v, .right x, .right w, N, C, B, ho, hk, hN, hv, hx, hu, f1, f2, fx, fu => ljoin_R (by omega)
  | .either a b, .right v, .right w, .left (.left u), N, C, B, ho, hk, hN, hv, hx, hu, f1, f2, fx, fu => ljoin_RL (B := B) ho hk hN hx hu fx fu
  | .either a b, .right v, .right w, .left (.right u), N, C, B, ho, hk, hN, hv, hx, hu, f1, f2, fx, fu => ljoin_RL (B := B) ho hk hN hx hu fx fu
  | .either a b, .left v, .left (.left x), .left (.left u), N, C, B, ho, hk, hN, hv, hx, hu, f1, f2, fx, fu => by
    obtain ⟨n, rfl⟩ : ∃ n, N = n + 1 := ⟨N - 1, by omega⟩
    simp only [kd] at hN hk
    simp only [DK.ok, Bool.and_eq_true] at ho
    simp only [fitD, ledD] at f1 f2
    refine RE.to (q_fun rfl ?_)
    simp only [encK, Z.encD]
    walk_at "qk"
    refine RP.eq pin_either ?_
    walk_at "qk"
    refine ⟨rfl, RE.eq (ljoin_ok a ho.1 (by omega) (by omega) hv hx hu f1 f2 fx fu) ?_⟩
    walk_at "qk"
    rw [List.take_length]
    exact ⟨rfl, rfl⟩
  | .either a b, .right v, .left (.right x), .left (.right u), N, C, B, ho, hk, hN, hv, hx, hu, f1, f2, fx, fu => by
    obtain ⟨n, rfl⟩ : ∃ n, N = n + 1 := ⟨N - 1, by omega⟩
    simp only [kd] at hN hk
    simp only [DK.ok, Bool.and_eq_true] at ho
    simp only [fitD, ledD] at f1 f2
    refine RE.to (q_fun rfl ?_)
    simp only [encK, Z.encD]
    walk_at "qk"
    refine RP.eq pin_either ?_
    walk_at "qk"
    refine ⟨rfl, RE.eq (ljoin_ok b ho.2 (by omega) (by omega) hv hx hu f1 f2 fx fu) ?_⟩
    walk_at "qk"
    rw [List.take_length]
    exact ⟨rfl, rfl⟩
  | .either a b, .left v, .left (.right x), .left _, _, _, _, _, _, _, _, _, _, f1, f2, _, _ => by simp [fitD] at f1
  | .either a b, .right v, .left (.left x), .left _, _, _, _, _, _, _, _, _, _, f1, f2, _, _ => by simp [fitD] at f1
  | .either a b, .left v, .left (.left x), .left (.right u), _, _, _, _, _, _, _, _, _, f1, f2, _, _ => by simp [fitD, ledD] at f2
  | .either a b, .right v, .left (.right x), .left (.left u), _, _, _, _, _, _, _, _, _, f1, f2, _, _ => by simp [fitD, ledD] at f2
end N25
end
section
open M
local macro_rules | `(tactic| walk_at "q1") => `(tactic| (first
  | with_reducible refine q_seq ?_ | with_reducible refine q_sif ?_ | with_reducible refine q_asg ?_ | with_reducible refine q_ret ?_ | with_reducible refine q_next ?_ | with_reducible refine q_drop ?_ | with_reducible refine q_for ?_ | with_reducible refine q_par ?_ | with_reducible refine q_par3 ?_
  | ((with_reducible refine' q_var ?k1 ?_); (case k1 => rfl)) | with_reducible refine q_c ?_ | with_reducible refine q_op ?_ | with_reducible refine q_un ?_ | with_reducible refine q_cons ?_ | with_reducible refine q_nil ?_ | with_reducible refine q_cb ?_ | with_reducible refine q_ty ?_
  | with_reducible refine q_test ?_ | with_reducible refine q_if ?_ | with_reducible refine q_tup ?_ | with_reducible refine q_lst ?_ | with_reducible refine q_and ?_ | with_reducible refine q_or ?_ | with_reducible refine q_not ?_ | with_reducible refine q_andV ?_ | with_reducible refine q_orV ?_ | with_reducible refine q_notV ?_
  | with_reducible refine q_call ?_ | with_reducible refine q_callN ?_ | with_reducible refine q_sl ?_ | with_reducible refine q_onone ?_ | with_reducible refine q_osome ?_ | with_reducible refine q_gname ?_ | with_reducible refine q_gcons ?_ | with_reducible refine q_gnil ?_ | with_reducible refine q_gconsM ?_ | with_reducible refine q_gnilM ?_ | with_reducible refine q_gsub ?_ | ((with_reducible refine' q_gtup ?k1 ?_); (case k1 => rfl))
  | with_reducible refine q_leave ?_ | with_reducible refine q_yes ?_ | with_reducible refine q_it ?_ | with_reducible refine q_if0 ?_ | with_reducible refine q_iR1 ?_ | with_reducible refine q_lstC ?_ | with_reducible refine q_tru ?_ | with_reducible refine q_lc ?_
  | with_reducible refine RP.eq paddi ?_ | with_reducible refine RP.eq psubi ?_ | with_reducible refine RP.eq pinti ?_ | with_reducible refine RP.eq pintb ?_ | with_reducible refine RP.eq pabsi ?_ | with_reducible refine RP.eq pnegi ?_ | with_reducible refine RP.eq peqs ?_ | with_reducible refine RP.eq peqi ?_
  | with_reducible refine RP.eq pnes ?_ | with_reducible refine RP.eq pnei ?_ | with_reducible refine RP.eq pgti ?_ | with_reducible refine RP.eq plei ?_ | with_reducible refine RP.eq pgei ?_ | with_reducible refine RP.eq plti ?_ | with_reducible refine RP.eq plent ?_ | with_reducible refine RP.eq plenl ?_
  | with_reducible refine RP.eq psltt ?_ | with_reducible refine RP.eq psltl ?_
  | ((with_reducible refine' RP.eq (pmuli ?k1) ?_); (case k1 => first | (unfold L2.CMul; omega) | (unfold L2.CMul; decide))) | ((with_reducible refine' RP.eq (pmodi ?k1) ?_); (case k1 => first | omega | decide)) | ((with_reducible refine' RP.eq (pfdivi ?k1) ?_); (case k1 => unfold L2.CDiv; omega)) | ((with_reducible refine' RP.eq (pdivmodi ?k1) ?_); (case k1 => unfold L2.CDiv; omega)) | ((with_reducible refine' RP.eq (pdivmodWi ?k1 ?k2) ?_); (case k1 => omega); (case k2 => omega)) | ((with_reducible refine' RP.eq (ppowi ?k1) ?_); (case k1 => unfold L2.CPow; decide))
  | with_reducible refine q_asB ?_ | ((with_reducible refine' q_allD ?k1 ?_); (case k1 => rfl))
  | with_reducible refine Z.r_nt ?_ | with_reducible refine Z.r_nf ?_
  | with_reducible refine RP.eq isi_int_none ?_ | with_reducible refine RP.eq isi_int_bool ?_ | with_reducible refine RP.eq isi_int_int ?_ | with_reducible refine RP.eq isi_int_str ?_ | with_reducible refine RP.eq isi_int_tuple ?_ | with_reducible refine RP.eq isi_int_list ?_ | with_reducible refine RP.eq isi_bool_none ?_ | with_reducible refine RP.eq isi_bool_bool ?_ | with_reducible refine RP.eq isi_bool_int ?_ | with_reducible refine RP.eq isi_bool_str ?_ | with_reducible refine RP.eq isi_bool_tuple ?_ | with_reducible refine RP.eq isi_bool_list ?_ | with_reducible refine RP.eq isi_tuple_none ?_ | with_reducible refine RP.eq isi_tuple_bool ?_ | with_reducible refine RP.eq isi_tuple_int ?_ | with_reducible refine RP.eq isi_tuple_str ?_ | with_reducible refine RP.eq isi_tuple_tuple ?_ | with_reducible refine RP.eq isi_tuple_list ?_ | with_reducible refine RP.eq isi_str_none ?_ | with_reducible refine RP.eq isi_str_bool ?_ | with_reducible refine RP.eq isi_str_int ?_ | with_reducible refine RP.eq isi_str_str ?_ | with_reducible refine RP.eq isi_str_tuple ?_ | with_reducible refine RP.eq isi_str_list ?_ | with_reducible refine RP.eq isi_list_none ?_ | with_reducible refine RP.eq isi_list_bool ?_ | with_reducible refine RP.eq isi_list_int ?_ | with_reducible refine RP.eq isi_list_str ?_ | with_reducible refine RP.eq isi_list_tuple ?_ | with_reducible refine RP.eq isi_list_list ?_
  | with_reducible refine RP.eq isi_int ?_ | with_reducible refine RP.eq isi_bool ?_ | with_reducible refine RP.eq isi_tuple ?_ | with_reducible refine RP.eq isi_str ?_ | with_reducible refine RP.eq isi_list ?_
  | ((with_reducible refine' q_len ?k1 ?_); (case k1 => rfl)) | ((with_reducible refine' RP.eq (paddt ?k1) ?_); (case k1 => exact Nat.le_of_ble_eq_true rfl))
  | ((with_reducible refine' q_lcons ?k1 ?_); (case k1 => rfl)) | ((with_reducible refine' q_lnil ?k1 ?_); (case k1 => rfl)) | with_reducible refine q_tab ?_ | with_reducible refine q_isTab ?_ | with_reducible refine q_noTab ?_ | with_reducible refine q_str1 ?_ | with_reducible refine q_int1 ?_
  | with_reducible refine RP.eq ptuplel ?_
  | with_reducible refine RP.eq pix0 ?_ | with_reducible refine RP.eq pix1 ?_ | with_reducible refine RP.eq pix2 ?_))
local macro_rules | `(tactic| walk_at "qq") => `(tactic| repeat walk_at "q1")
local macro_rules | `(tactic| walk_at "cell") => `(tactic| first | assumption | (apply M.set_at; walk_at "cell"))
local macro_rules | `(tactic| walk_at "qc") => `(tactic| repeat (first
  | walk_at "q1"
  | ((refine' M.cIx ?k1 ?k2 ?_); (case k1 => walk_at "cell"); (case k2 => rfl))
  | ((refine' M.cSet ?k1 ?k2 ?_); (case k1 => walk_at "cell"); (case k2 => rfl))))
local macro_rules | `(tactic| walk_at "ks") => `(tactic| first | (refine M.q_dec (fun hs => absurd hs (by decide +kernel)) (fun _ => ?_)) | (refine M.q_dec (fun _ => ?_) (fun hs => absurd rfl hs)) | (refine M.q_ndec (fun _ => ?_) (fun hs => absurd hs (by decide +kernel))) | (refine M.q_ndec (fun hs => absurd rfl hs) (fun _ => ?_)))
local macro_rules | `(tactic| walk_at "qk") => `(tactic| repeat (first
  | walk_at "q1"
  | ((refine' M.cIx ?k1 ?k2 ?_); (case k1 => walk_at "cell"); (case k2 => rfl))
  | ((refine' M.cSet ?k1 ?k2 ?_); (case k1 => walk_at "cell"); (case k2 => rfl))
  | walk_at "ks"))
namespace N25
open PySem PySem.Spec PyProof.Rows L2 Z M
noncomputable instance decDV : DecidableEq Z.DV := fun a b => Classical.propDecidable (a = b)
theorem eqv_Rs {a : DK} : ∀ {r s : Rows}, (∀ p ∈ r, hasP a p.1) → (∀ p ∈ s, hasP a p.1) → PyData.eqvAll (r.map encR) (s.map encR) = decide (r = s)
  | [], [], _, _ => by simp [PyData.eqvAll]
  | [], _ :: _, _, _ => by simp [PyData.eqvAll]
  | _ :: _, [], _, _ => by simp [PyData.eqvAll]
  | (x, i) :: r, (y, j) :: s, h1, h2 => by
    have q := eqv_Rs (r := r) (s := s) (fun p hp => h1 p (List.mem_cons_of_mem _ hp)) (fun p hp => h2 p (List.mem_cons_of_mem _ hp))
    have e := eqv_encP (h1 (x, i) List.mem_cons_self) (h2 (y, j) List.mem_cons_self)
    simp only [List.map_cons, encR, PyData.eqvAll, PyData.eqv, q, e, List.cons.injEq, Prod.mk.injEq, Bool.and_true, Bool.decide_and]
    by_cases c : i = j <;> simp [c]
theorem eqv_encD : ∀ {k : DK} {x y : DV}, has k x → has k y → PyData.eqv (encD x) (encD y) = decide (x = y)
  | .unit, .unit, .unit, _, _ => by simp [Z.encD, PyData.eqv, PyData.eqvAll]
  | .num, .num i, .num j, _, _ => by
    simp only [Z.encD, PyData.eqv, DV.num.injEq]
    by_cases e : i = j <;> simp [e]
  | .bag a, .bag r, .bag s, h1, h2 => by
    simp only [Z.encD, PyData.eqv, eqv_Rs h1.2 h2.2, DV.bag.injEq]
  | .pair a b, .pair x y, .pair u v, h1, h2 => by
    simp only [Z.encD, PyData.eqv, PyData.eqvAll, eqv_encD (show has a x from h1.1) (show has a u from h2.1), eqv_encD (show has b y from h1.2) (show has b v from h2.2), DV.pair.injEq, beq_self_eq_true, Bool.true_and, Bool.and_true, Bool.decide_and]
  | .either a b, .left x, .left u, h1, h3 => by
    have h1' : has a x := h1
    have h3' : has a u := h3
    simp only [Z.encD, PyData.eqv, PyData.eqvAll, eqv_encD h1' h3', DV.left.injEq, beq_self_eq_true, Bool.true_and, Bool.and_true]
  | .either a b, .right x, .right u, h1, h3 => by
    have h1' : has b x := h1
    have h3' : has b u := h3
    simp only [Z.encD, PyData.eqv, PyData.eqvAll, eqv_encD h1' h3', DV.right.injEq, beq_self_eq_true, Bool.true_and, Bool.and_true]
  | .either a b, .left x, .right u, h1, h3 => by
    have e : decide (DV.left x = DV.right u) = false := by simp
    simp only [Z.encD, PyData.eqv, PyData.eqvAll, ne_lr, Bool.false_and, e]
  | .either a b, .right x, .left u, h1, h3 => by
    have e : decide (DV.right x = DV.left u) = false := by simp
    simp only [Z.encD, PyData.eqv, PyData.eqvAll, ne_rl, Bool.false_and, e]
theorem peqD {C : Cells} {k : DK} {x y : DV} (hk : kd k ≤ 60) (k1 : has k x) (k2 : has k y) : pEq C (.d (encD x)) (.d (encD y)) = some (.bool (decide (x = y))) := by
  have e : eqD (encD x) (encD y) = some (decide (x = y)) := by
    unfold eqD
    rw [shaped_D hk k1, shaped_D hk k2, eqv_encD k1 k2]
    by_cases hs : scalD (encD x) (encD y) = true
    · rw [if_pos hs]
      cases x <;> cases y <;> first | cases hs; done | skip
      simp [Z.encD, eqS]
    · rw [if_neg hs]
      rfl
  show (eqD (encD x) (encD y)).bind _ = _
  rw [e]
  rfl
end N25
end
section
open M
local macro_rules | `(tactic| walk_at "q1") => `(tactic| (first
  | with_reducible refine q_seq ?_ | with_reducible refine q_sif ?_ | with_reducible refine q_asg ?_ | with_reducible refine q_ret ?_ | with_reducible refine q_next ?_ | with_reducible refine q_drop ?_ | with_reducible refine q_for ?_ | with_reducible refine q_par ?_ | with_reducible refine q_par3 ?_
  | ((with_reducible refine' q_var ?k1 ?_); (case k1 => rfl)) | with_reducible refine q_c ?_ | with_reducible refine q_op ?_ | with_reducible refine q_un ?_ | with_reducible refine q_cons ?_ | with_reducible refine q_nil ?_ | with_reducible refine q_cb ?_ | with_reducible refine q_ty ?_
  | with_reducible refine q_test ?_ | with_reducible refine q_if ?_ | with_reducible refine q_tup ?_ | with_reducible refine q_lst ?_ | with_reducible refine q_and ?_ | with_reducible refine q_or ?_ | with_reducible refine q_not ?_ | with_reducible refine q_andV ?_ | with_reducible refine q_orV ?_ | with_reducible refine q_notV ?_
  | with_reducible refine q_call ?_ | with_reducible refine q_callN ?_ | with_reducible refine q_sl ?_ | with_reducible refine q_onone ?_ | with_reducible refine q_osome ?_ | with_reducible refine q_gname ?_ | with_reducible refine q_gcons ?_ | with_reducible refine q_gnil ?_ | with_reducible refine q_gconsM ?_ | with_reducible refine q_gnilM ?_ | with_reducible refine q_gsub ?_ | ((with_reducible refine' q_gtup ?k1 ?_); (case k1 => rfl))
  | with_reducible refine q_leave ?_ | with_reducible refine q_yes ?_ | with_reducible refine q_it ?_ | with_reducible refine q_if0 ?_ | with_reducible refine q_iR1 ?_ | with_reducible refine q_lstC ?_ | with_reducible refine q_tru ?_ | with_reducible refine q_lc ?_
  | with_reducible refine RP.eq paddi ?_ | with_reducible refine RP.eq psubi ?_ | with_reducible refine RP.eq pinti ?_ | with_reducible refine RP.eq pintb ?_ | with_reducible refine RP.eq pabsi ?_ | with_reducible refine RP.eq pnegi ?_ | with_reducible refine RP.eq peqs ?_ | with_reducible refine RP.eq peqi ?_
  | with_reducible refine RP.eq pnes ?_ | with_reducible refine RP.eq pnei ?_ | with_reducible refine RP.eq pgti ?_ | with_reducible refine RP.eq plei ?_ | with_reducible refine RP.eq pgei ?_ | with_reducible refine RP.eq plti ?_ | with_reducible refine RP.eq plent ?_ | with_reducible refine RP.eq plenl ?_
  | with_reducible refine RP.eq psltt ?_ | with_reducible refine RP.eq psltl ?_
  | ((with_reducible refine' RP.eq (pmuli ?k1) ?_); (case k1 => first | (unfold L2.CMul; omega) | (unfold L2.CMul; decide))) | ((with_reducible refine' RP.eq (pmodi ?k1) ?_); (case k1 => first | omega | decide)) | ((with_reducible refine' RP.eq (pfdivi ?k1) ?_); (case k1 => unfold L2.CDiv; omega)) | ((with_reducible refine' RP.eq (pdivmodi ?k1) ?_); (case k1 => unfold L2.CDiv; omega)) | ((with_reducible refine' RP.eq (pdivmodWi ?k1 ?k2) ?_); (case k1 => omega); (case k2 => omega)) | ((with_reducible refine' RP.eq (ppowi ?k1) ?_); (case k1 => unfold L2.CPow; decide))
  | with_reducible refine q_asB ?_ | ((with_reducible refine' q_allD ?k1 ?_); (case k1 => rfl))
  | with_reducible refine Z.r_nt ?_ | with_reducible refine Z.r_nf ?_
  | with_reducible refine RP.eq isi_int_none ?_ | with_reducible refine RP.eq isi_int_bool ?_ | with_reducible refine RP.eq isi_int_int ?_ | with_reducible refine RP.eq isi_int_str ?_ | with_reducible refine RP.eq isi_int_tuple ?_ | with_reducible refine RP.eq isi_int_list ?_ | with_reducible refine RP.eq isi_bool_none ?_ | with_reducible refine RP.eq isi_bool_bool ?_ | with_reducible refine RP.eq isi_bool_int ?_ | with_reducible refine RP.eq isi_bool_str ?_ | with_reducible refine RP.eq isi_bool_tuple ?_ | with_reducible refine RP.eq isi_bool_list ?_ | with_reducible refine RP.eq isi_tuple_none ?_ | with_reducible refine RP.eq isi_tuple_bool ?_ | with_reducible refine RP.eq isi_tuple_int ?_ | with_reducible refine RP.eq isi_tuple_str ?_ | with_reducible refine RP.eq isi_tuple_tuple ?_ | with_reducible refine RP.eq isi_tuple_list ?_ | with_reducible refine RP.eq isi_str_none ?_ | with_reducible refine RP.eq isi_str_bool ?_ | with_reducible refine RP.eq isi_str_int ?_ | with_reducible refine RP.eq isi_str_str ?_ | with_reducible refine RP.eq isi_str_tuple ?_ | with_reducible refine RP.eq isi_str_list ?_ | with_reducible refine RP.eq isi_list_none ?_ | with_reducible refine RP.eq isi_list_bool ?_ | with_reducible refine RP.eq isi_list_int ?_ | with_reducible refine RP.eq isi_list_str ?_ | with_reducible refine RP.eq isi_list_tuple ?_ | with_reducible refine RP.eq isi_list_list ?_
  | with_reducible refine RP.eq isi_int ?_ | with_reducible refine RP.eq isi_bool ?_ | with_reducible refine RP.eq isi_tuple ?_ | with_reducible refine RP.eq isi_str ?_ | with_reducible refine RP.eq isi_list ?_
  | ((with_reducible refine' q_len ?k1 ?_); (case k1 => rfl)) | ((with_reducible refine' RP.eq (paddt ?k1) ?_); (case k1 => exact Nat.le_of_ble_eq_true rfl))
  | ((with_reducible refine' q_lcons ?k1 ?_); (case k1 => rfl)) | ((with_reducible refine' q_lnil ?k1 ?_); (case k1 => rfl)) | with_reducible refine q_tab ?_ | with_reducible refine q_isTab ?_ | with_reducible refine q_noTab ?_ | with_reducible refine q_str1 ?_ | with_reducible refine q_int1 ?_
  | with_reducible refine RP.eq ptuplel ?_
  | with_reducible refine RP.eq pix0 ?_ | with_reducible refine RP.eq pix1 ?_ | with_reducible refine RP.eq pix2 ?_))
local macro_rules | `(tactic| walk_at "qq") => `(tactic| repeat walk_at "q1")
local macro_rules | `(tactic| walk_at "cell") => `(tactic| first | assumption | (apply M.set_at; walk_at "cell"))
local macro_rules | `(tactic| walk_at "qc") => `(tactic| repeat (first
  | walk_at "q1"
  | ((refine' M.cIx ?k1 ?k2 ?_); (case k1 => walk_at "cell"); (case k2 => rfl))
  | ((refine' M.cSet ?k1 ?k2 ?_); (case k1 => walk_at "cell"); (case k2 => rfl))))
local macro_rules | `(tactic| walk_at "ks") => `(tactic| first | (refine M.q_dec (fun hs => absurd hs (by decide +kernel)) (fun _ => ?_)) | (refine M.q_dec (fun _ => ?_) (fun hs => absurd rfl hs)) | (refine M.q_ndec (fun _ => ?_) (fun hs => absurd hs (by decide +kernel))) | (refine M.q_ndec (fun hs => absurd rfl hs) (fun _ => ?_)))
local macro_rules | `(tactic| walk_at "qk") => `(tactic| repeat (first
  | walk_at "q1"
  | ((refine' M.cIx ?k1 ?k2 ?_); (case k1 => walk_at "cell"); (case k2 => rfl))
  | ((refine' M.cSet ?k1 ?k2 ?_); (case k1 => walk_at "cell"); (case k2 => rfl))
  | walk_at "ks"))
namespace N25
open PySem PySem.Spec PyProof.Rows L2 Z M
theorem joined_ok {c : DK} {v x u : DV} (t : Told c) (vv : Val c v) (vx : Chg c x) (vu : Chg c u) (f1 : fitD c v x = true) (f2 : fitD c (ledD c v x) u = true) {N : Nat} {C : Cells} (hN : 70 ≤ N) : m_joined N [.d (encK c), .d (encD v), .d (encD x), .d (encD u)] C = some (.d (encD (joinD c x u)), C) := by
  obtain ⟨n, rfl⟩ : ∃ n, N = n + 1 := ⟨N - 1, by omega⟩
  have hd := t.deep
  refine RE.to (q_fun rfl ?_)
  walk_at "qk"
  refine ⟨rfl, RE.eq (chkall_ok t (.cons vv.has vv.fit .nil) (.cons vx.has vx.fit (.cons vu.has vu.fit .nil)) (by omega)) ?_⟩
  walk_at "qk"
  refine ⟨rfl, RE.eq (chkfit_ok c hd vv.has vx.has f1 (by omega)) ?_⟩
  walk_at "qk"
  refine ⟨rfl, RE.eq (ledin_ok c t.ok (by omega) (by omega) vv.has vx.has vv.fit vx.fit) ?_⟩
  walk_at "qk"
  refine ⟨rfl, RE.eq (chkfit_ok c hd (ledD_has t.ok vv.has vx.has) vu.has f2 (by omega)) ?_⟩
  walk_at "qk"
  refine ⟨rfl, RE.eq (joinedin_ok c t.ok (by omega) (by omega) vv.has vx.has vu.has f1 f2 vx.fit vu.fit) ?_⟩
  refine ⟨_, _, rfl, ?_⟩
  rw [List.take_length]
  exact ⟨rfl, rfl⟩
theorem backin_ok {c : DK} {v x : DV} (t : Told c) (hv : has c v) (hx : has (dK c) x) {B : Nat} (fv : fits 25 B v) (fx : fits 25 B x) {N : Nat} {C : Cells} (hN : 60 ≤ N) : m_back_in N [.d (encK c), .d (encD v), .d (encD x)] C = some (.d (encD (lessD c v (ledD c v x))), C) := by
  obtain ⟨n, rfl⟩ : ∃ n, N = n + 1 := ⟨N - 1, by omega⟩
  have hd := t.deep
  refine RE.to (q_fun rfl ?_)
  walk_at "qk"
  refine ⟨rfl, RE.eq (ledin_ok c t.ok (by omega) (by omega) hv hx (fv.mono (by decide) (Nat.le_refl _)) (fx.mono (by decide) (Nat.le_refl _))) ?_⟩
  walk_at "qk"
  refine ⟨rfl, RE.eq (lessin_ok c t.ok (by omega) (by omega) hv (ledD_has t.ok hv hx) (fv.mono (by decide) (Nat.le_add_right B B)) (ledD_fits t.ok hv hx fv fx)) ?_⟩
  refine ⟨_, _, rfl, ?_⟩
  rw [List.take_length]
  exact ⟨rfl, rfl⟩
theorem back_ok {c : DK} {v x : DV} (t : Told c) (vv : Val c v) (vx : Chg c x) (f1 : fitD c v x = true) {B : Nat} (fv : fits 25 B v) (fx : fits 25 B x) {N : Nat} {C : Cells} (hN : 70 ≤ N) : m_back N [.d (encK c), .d (encD v), .d (encD x)] C = some (.d (encD (lessD c v (ledD c v x))), C) := by
  obtain ⟨n, rfl⟩ : ∃ n, N = n + 1 := ⟨N - 1, by omega⟩
  have hd := t.deep
  refine RE.to (q_fun rfl ?_)
  walk_at "qk"
  refine ⟨rfl, RE.eq (chkall_ok t (.cons vv.has vv.fit .nil) (.cons vx.has vx.fit .nil) (by omega)) ?_⟩
  walk_at "qk"
  refine ⟨rfl, RE.eq (chkfit_ok c hd vv.has vx.has f1 (by omega)) ?_⟩
  walk_at "qk"
  refine ⟨rfl, RE.eq (backin_ok t vv.has vx.has fv fx (by omega)) ?_⟩
  refine ⟨_, _, rfl, ?_⟩
  rw [List.take_length]
  exact ⟨rfl, rfl⟩
theorem stays_ok {c : DK} {v x : DV} (t : Told c) (vv : Val c v) (vx : Chg c x) {N : Nat} {C : Cells} (hN : 70 ≤ N) : m_changes_nothing N [.d (encK c), .d (encD v), .d (encD x)] C = some (.d (.bool (fitD c v x && decide (ledD c v x = v))), C) := by
  obtain ⟨n, rfl⟩ : ∃ n, N = n + 1 := ⟨N - 1, by omega⟩
  have hd := t.deep
  refine RE.to (q_fun rfl ?_)
  walk_at "qk"
  refine ⟨rfl, RE.eq (chkall_ok t (.cons vv.has vv.fit .nil) (.cons vx.has vx.fit .nil) (by omega)) ?_⟩
  walk_at "qk"
  refine ⟨rfl, RE.eq (fitsin_ok c (by omega) vv.has vx.has) ?_⟩
  refine RP.eq (show asB _ = some (fitD c v x) from rfl) ?_
  cases hf : fitD c v x with
  | false =>
    refine ⟨_, _, rfl, ?_⟩
    rw [List.take_length]
    exact ⟨rfl, rfl⟩
  | true =>
    walk_at "qk"
    refine ⟨rfl, RE.eq (ledin_ok c t.ok (by omega) (by omega) vv.has vx.has vv.fit vx.fit) ?_⟩
    walk_at "qk"
    refine RP.eq (peqD (by omega) (ledD_has t.ok vv.has vx.has) vv.has) ?_
    refine ⟨_, _, rfl, ?_⟩
    rw [List.take_length, Bool.true_and]
    exact ⟨rfl, rfl⟩
end N25
end
section
open M
local macro_rules | `(tactic| walk_at "q1") => `(tactic| (first
  | with_reducible refine q_seq ?_ | with_reducible refine q_sif ?_ | with_reducible refine q_asg ?_ | with_reducible refine q_ret ?_ | with_reducible refine q_next ?_ | with_reducible refine q_drop ?_ | with_reducible refine q_for ?_ | with_reducible refine q_par ?_ | with_reducible refine q_par3 ?_
  | ((with_reducible refine' q_var ?k1 ?_); (case k1 => rfl)) | with_reducible refine q_c ?_ | with_reducible refine q_op ?_ | with_reducible refine q_un ?_ | with_reducible refine q_cons ?_ | with_reducible refine q_nil ?_ | with_reducible refine q_cb ?_ | with_reducible refine q_ty ?_
  | with_reducible refine q_test ?_ | with_reducible refine q_if ?_ | with_reducible refine q_tup ?_ | with_reducible refine q_lst ?_ | with_reducible refine q_and ?_ | with_reducible refine q_or ?_ | with_reducible refine q_not ?_ | with_reducible refine q_andV ?_ | with_reducible refine q_orV ?_ | with_reducible refine q_notV ?_
  | with_reducible refine q_call ?_ | with_reducible refine q_callN ?_ | with_reducible refine q_sl ?_ | with_reducible refine q_onone ?_ | with_reducible refine q_osome ?_ | with_reducible refine q_gname ?_ | with_reducible refine q_gcons ?_ | with_reducible refine q_gnil ?_ | with_reducible refine q_gconsM ?_ | with_reducible refine q_gnilM ?_ | with_reducible refine q_gsub ?_ | ((with_reducible refine' q_gtup ?k1 ?_); (case k1 => rfl))
  | with_reducible refine q_leave ?_ | with_reducible refine q_yes ?_ | with_reducible refine q_it ?_ | with_reducible refine q_if0 ?_ | with_reducible refine q_iR1 ?_ | with_reducible refine q_lstC ?_ | with_reducible refine q_tru ?_ | with_reducible refine q_lc ?_
  | with_reducible refine RP.eq paddi ?_ | with_reducible refine RP.eq psubi ?_ | with_reducible refine RP.eq pinti ?_ | with_reducible refine RP.eq pintb ?_ | with_reducible refine RP.eq pabsi ?_ | with_reducible refine RP.eq pnegi ?_ | with_reducible refine RP.eq peqs ?_ | with_reducible refine RP.eq peqi ?_
  | with_reducible refine RP.eq pnes ?_ | with_reducible refine RP.eq pnei ?_ | with_reducible refine RP.eq pgti ?_ | with_reducible refine RP.eq plei ?_ | with_reducible refine RP.eq pgei ?_ | with_reducible refine RP.eq plti ?_ | with_reducible refine RP.eq plent ?_ | with_reducible refine RP.eq plenl ?_
  | with_reducible refine RP.eq psltt ?_ | with_reducible refine RP.eq psltl ?_
  | ((with_reducible refine' RP.eq (pmuli ?k1) ?_); (case k1 => first | (unfold L2.CMul; omega) | (unfold L2.CMul; decide))) | ((with_reducible refine' RP.eq (pmodi ?k1) ?_); (case k1 => first | omega | decide)) | ((with_reducible refine' RP.eq (pfdivi ?k1) ?_); (case k1 => unfold L2.CDiv; omega)) | ((with_reducible refine' RP.eq (pdivmodi ?k1) ?_); (case k1 => unfold L2.CDiv; omega)) | ((with_reducible refine' RP.eq (pdivmodWi ?k1 ?k2) ?_); (case k1 => omega); (case k2 => omega)) | ((with_reducible refine' RP.eq (ppowi ?k1) ?_); (case k1 => unfold L2.CPow; decide))
  | with_reducible refine q_asB ?_ | ((with_reducible refine' q_allD ?k1 ?_); (case k1 => rfl))
  | with_reducible refine Z.r_nt ?_ | with_reducible refine Z.r_nf ?_
  | with_reducible refine RP.eq isi_int_none ?_ | with_reducible refine RP.eq isi_int_bool ?_ | with_reducible refine RP.eq isi_int_int ?_ | with_reducible refine RP.eq isi_int_str ?_ | with_reducible refine RP.eq isi_int_tuple ?_ | with_reducible refine RP.eq isi_int_list ?_ | with_reducible refine RP.eq isi_bool_none ?_ | with_reducible refine RP.eq isi_bool_bool ?_ | with_reducible refine RP.eq isi_bool_int ?_ | with_reducible refine RP.eq isi_bool_str ?_ | with_reducible refine RP.eq isi_bool_tuple ?_ | with_reducible refine RP.eq isi_bool_list ?_ | with_reducible refine RP.eq isi_tuple_none ?_ | with_reducible refine RP.eq isi_tuple_bool ?_ | with_reducible refine RP.eq isi_tuple_int ?_ | with_reducible refine RP.eq isi_tuple_str ?_ | with_reducible refine RP.eq isi_tuple_tuple ?_ | with_reducible refine RP.eq isi_tuple_list ?_ | with_reducible refine RP.eq isi_str_none ?_ | with_reducible refine RP.eq isi_str_bool ?_ | with_reducible refine RP.eq isi_str_int ?_ | with_reducible refine RP.eq isi_str_str ?_ | with_reducible refine RP.eq isi_str_tuple ?_ | with_reducible refine RP.eq isi_str_list ?_ | with_reducible refine RP.eq isi_list_none ?_ | with_reducible refine RP.eq isi_list_bool ?_ | with_reducible refine RP.eq isi_list_int ?_ | with_reducible refine RP.eq isi_list_str ?_ | with_reducible refine RP.eq isi_list_tuple ?_ | with_reducible refine RP.eq isi_list_list ?_
  | with_reducible refine RP.eq isi_int ?_ | with_reducible refine RP.eq isi_bool ?_ | with_reducible refine RP.eq isi_tuple ?_ | with_reducible refine RP.eq isi_str ?_ | with_reducible refine RP.eq isi_list ?_
  | ((with_reducible refine' q_len ?k1 ?_); (case k1 => rfl)) | ((with_reducible refine' RP.eq (paddt ?k1) ?_); (case k1 => exact Nat.le_of_ble_eq_true rfl))
  | ((with_reducible refine' q_lcons ?k1 ?_); (case k1 => rfl)) | ((with_reducible refine' q_lnil ?k1 ?_); (case k1 => rfl)) | with_reducible refine q_tab ?_ | with_reducible refine q_isTab ?_ | with_reducible refine q_noTab ?_ | with_reducible refine q_str1 ?_ | with_reducible refine q_int1 ?_
  | with_reducible refine RP.eq ptuplel ?_
  | with_reducible refine RP.eq pix0 ?_ | with_reducible refine RP.eq pix1 ?_ | with_reducible refine RP.eq pix2 ?_))
local macro_rules | `(tactic| walk_at "qq") => `(tactic| repeat walk_at "q1")
local macro_rules | `(tactic| walk_at "cell") => `(tactic| first | assumption | (apply M.set_at; walk_at "cell"))
local macro_rules | `(tactic| walk_at "qc") => `(tactic| repeat (first
  | walk_at "q1"
  | ((refine' M.cIx ?k1 ?k2 ?_); (case k1 => walk_at "cell"); (case k2 => rfl))
  | ((refine' M.cSet ?k1 ?k2 ?_); (case k1 => walk_at "cell"); (case k2 => rfl))))
local macro_rules | `(tactic| walk_at "ks") => `(tactic| first | (refine M.q_dec (fun hs => absurd hs (by decide +kernel)) (fun _ => ?_)) | (refine M.q_dec (fun _ => ?_) (fun hs => absurd rfl hs)) | (refine M.q_ndec (fun _ => ?_) (fun hs => absurd hs (by decide +kernel))) | (refine M.q_ndec (fun hs => absurd rfl hs) (fun _ => ?_)))
local macro_rules | `(tactic| walk_at "qk") => `(tactic| repeat (first
  | walk_at "q1"
  | ((refine' M.cIx ?k1 ?k2 ?_); (case k1 => walk_at "cell"); (case k2 => rfl))
  | ((refine' M.cSet ?k1 ?k2 ?_); (case k1 => walk_at "cell"); (case k2 => rfl))
  | walk_at "ks"))
namespace N25
open PySem PySem.Spec PyProof.Rows L2 Z M
theorem shows_bool (b : Bool) : Shows 10 10000 (.bool b) := by cases b <;> exact ⟨by decide, by decide, by decide, by decide, by decide⟩
theorem e24 : 10 ^ 24 < big := by decide +kernel
theorem showV {c : DK} {z : DV} {R : Nat} (hR : R ≤ 28) (hk : kd c ≤ 4) (hz : has c z) (fz : fits R (10 ^ 24) z) : Shows 10 10000 (encD z) := by
  refine (sh_D (R := 28) e24 hz (fz.mono hR (Nat.le_refl _))).mono (by omega) ?_
  have e1 : 2 ^ kd c ≤ 2 ^ 4 := Nat.pow_le_pow_right (by decide) hk
  have e2 : 10 * (28 + 1) * 2 ^ kd c ≤ 10 * (28 + 1) * 2 ^ 4 := Nat.mul_le_mul_left _ e1
  exact Nat.le_trans (Nat.sub_le _ _) (Nat.le_trans e2 (by decide))
theorem showU {c : DK} {z : DV} {R : Nat} (hR : R ≤ 28) (hk : kd c ≤ 4) (hz : has (dK c) z) (fz : fits R (10 ^ 24) z) : Shows 10 10000 (encD z) := by
  refine (sh_U (R := 28) e24 hz (fz.mono hR (Nat.le_refl _))).mono (by omega) ?_
  have e1 : 2 ^ kd c ≤ 2 ^ 4 := Nat.pow_le_pow_right (by decide) hk
  have e2 : 20 * (28 + 1) * 2 ^ kd c ≤ 20 * (28 + 1) * 2 ^ 4 := Nat.mul_le_mul_left _ e1
  exact Nat.le_trans (Nat.sub_le _ _) (Nat.le_trans e2 (by decide))
theorem q20 : 10 ^ 20 ≤ 10 ^ 24 := by decide +kernel
theorem q21 : 10 ^ 21 ≤ 10 ^ 24 := by decide +kernel
theorem q22 : 10 ^ 22 ≤ 10 ^ 24 := by decide +kernel
theorem q23 : 10 ^ 23 ≤ 10 ^ 24 := by decide +kernel
theorem q40 : 10 ^ 24 ≤ 10 ^ 40 := by decide +kernel
theorem rb8 : RB 8 (10 ^ 21) := ⟨by decide, by decide +kernel⟩
theorem rb16 : RB 16 (10 ^ 22) := ⟨by decide, by decide +kernel⟩
theorem right_ok {N j : Nat} {C : Cells} (hN : 80 ≤ N) (hw : N25.WellC j C) : RE (m__law_right N [.c j] C) fun v C' => v = .d (.bool true) ∧ N25.GoC j C C' := by
  obtain ⟨n, rfl⟩ : ∃ n, N = n + 1 := ⟨N - 1, by omega⟩
  refine q_fun rfl ?_
  walk_at "qk"
  refine ⟨4, rfl, by decide, ?_⟩
  refine q_loop (fun i env E => ∃ e1 e2 e3 e4 e5 e6 e7 e8 e9 e10 e11 e12 e13 : Option AV, env = [some (.c j), e1, e2, e3, e4, e5, e6, e7, e8, e9, e10, e11, e12, e13] ∧ N25.GoC j C E) ⟨_, _, _, _, _, _, _, _, _, _, _, _, _, rfl, .refl hw⟩ (fun _ _ _ _ => rfl) ?_ ?_
  · rintro i av env' E hi ⟨e1, e2, e3, e4, e5, e6, e7, e8, e9, e10, e11, e12, e13, rfl, g⟩
    obtain ⟨hi8, rfl⟩ := rngs_at hi
    refine q_gname ?_
    refine q_seq (RSt.nxm (P := fun env F => ∃ c e1 e3 e4 e5 e6 e7 e8 e9 e10 e11 e12 e13, env = [some (.c j), e1, some (.d (encK c)), e3, e4, e5, e6, e7, e8, e9, e10, e11, e12, e13] ∧ c.ok = true ∧ kd c ≤ 4 ∧ N25.GoC j C F) ?_ ?_)
    · walk_at "qk"
      refine q_dec (fun h => ?_) (fun h => ?_)
      · walk_at "qk"
        refine ⟨rfl, (data_ok 3 g.1 (by decide) (by decide) (by omega)).mono ?_⟩
        rintro _ C1 ⟨c, rfl, ho, hk, g1⟩
        have hk4 : kd c ≤ 4 := hk
        walk_at "qk"
        exact ⟨c, _, _, _, _, _, _, _, _, _, _, _, _, rfl, ho, hk4, g.trans g1⟩
      · walk_at "qk"
        refine ⟨rfl, (data_ok 2 g.1 (by decide) (by decide) (by omega)).mono ?_⟩
        rintro _ C1 ⟨c1, rfl, ho1, hk1, g1⟩
        have hk13 : kd c1 ≤ 3 := hk1
        walk_at "qk"
        refine ⟨rfl, (data_ok 2 g1.1 (by decide) (by decide) (by omega)).mono ?_⟩
        rintro _ C2 ⟨c2, rfl, ho2, hk2, g2⟩
        have hk23 : kd c2 ≤ 3 := hk2
        walk_at "qk"
        exact ⟨.either c1 c2, _, _, _, _, _, _, _, _, _, _, _, _, rfl, by simp only [DK.ok, ho1, ho2, Bool.and_self], by simp only [kd]; omega, (g.trans g1).trans g2⟩
    · rintro env' F ⟨c, e1, e3, e4, e5, e6, e7, e8, e9, e10, e11, e12, e13, rfl, ho, hk, gF⟩
      have b1 := bkd_le c
      have dd := dK_deep c
      have t : Told c := ⟨ho, by omega⟩
      walk_at "qk"
      refine ⟨rfl, (value_ok c gF.1 ho (by omega) (by omega)).mono ?_⟩
      rintro _ C1 ⟨v, rfl, hv, fv, g1⟩
      walk_at "qk"
      refine ⟨rfl, (change_ok rb4 c hv fv g1.1 ho (by omega) (by omega)).mono ?_⟩
      rintro _ C2 ⟨x, rfl, hx, fx, f1, g2⟩
      have hm : has c (ledD c v x) := ledD_has ho hv hx
      have fm : fits 8 (10 ^ 21) (ledD c v x) := (ledD_fits ho hv hx fv fx).mono (by decide) (by decide +kernel)
      walk_at "qk"
      refine ⟨rfl, RE.eq (lled_ok c ho (by omega) (by omega) hv hx (fv.mono (by decide) (Nat.le_refl _)) (fx.mono (by decide) (Nat.le_refl _))) ?_⟩
      walk_at "qk"
      refine ⟨rfl, (change_ok rb8 c hm fm g2.1 ho (by omega) (by omega)).mono ?_⟩
      rintro _ C3 ⟨u, rfl, hu, fu, f2, g3⟩
      have hf : has c (ledD c (ledD c v x) u) := ledD_has ho hm hu
      have ff : fits 16 (10 ^ 22) (ledD c (ledD c v x) u) := (ledD_fits ho hm hu fm fu).mono (by decide) (by decide +kernel)
      walk_at "qk"
      refine ⟨rfl, RE.eq (lled_ok c ho (by omega) (by omega) hm hu (fm.mono (by decide) (Nat.le_refl _)) (fu.mono (by decide) (Nat.le_refl _))) ?_⟩
      walk_at "qk"
      refine ⟨rfl, (change_ok rb16 c hf ff g3.1 ho (by omega) (by omega)).mono ?_⟩
      rintro _ C4 ⟨z, rfl, hz, fz, f3, g4⟩
      have fx' : fits 4 (10 ^ 22) x := fx.mono (Nat.le_refl _) (by decide +kernel)
      have fu' : fits 8 (10 ^ 22) u := fu.mono (Nat.le_refl _) (by decide +kernel)
      walk_at "qk"
      refine ⟨rfl, RE.eq (ljoin_ok c ho (by omega) (by omega) hv hx hu f1 f2 (fx'.mono (by decide) (Nat.le_refl _)) (fu'.mono (by decide) (Nat.le_refl _))) ?_⟩
      walk_at "qk"
      refine ⟨rfl, RE.eq (ljoin_ok c ho (by omega) (by omega) hm hu hz f2 f3 (fu'.mono (by decide) (Nat.le_refl _)) (fz.mono (by decide) (Nat.le_refl _))) ?_⟩
      have hb : has (dK c) (joinD c x u) := join_has ho hx hu
      have fb : fits 12 (10 ^ 22) (joinD c x u) := (join_fits ho hx hu fx fu).mono (by decide) (by decide +kernel)
      have hl : has (dK c) (joinD c u z) := join_has ho hu hz
      have fl : fits 24 (10 ^ 23) (joinD c u z) := (join_fits ho hu hz fu fz).mono (by decide) (by decide +kernel)
      have eb := join_led ho hv hx hu f1 f2
      have bb := join_fit hv hx hu f1 f2
      have bl := join_fit hm hu hz f2 f3
      have big3 : fitD c (ledD c v (joinD c x u)) z = true := by rw [eb]; exact f3
      have as := join_assoc ho hv hx hu hz f1 f2 f3
      have vv : Val c v := ⟨hv, fv.mono (by decide) (Nat.le_trans q20 q40)⟩
      have vm : Val c (ledD c v x) := ⟨hm, fm.mono (by decide) (Nat.le_trans q21 q40)⟩
      have vx : Chg c x := ⟨hx, fx.mono (by decide) (Nat.le_trans q20 q40)⟩
      have vu : Chg c u := ⟨hu, fu.mono (by decide) (Nat.le_trans q21 q40)⟩
      have vz : Chg c z := ⟨hz, fz.mono (by decide) (Nat.le_trans q22 q40)⟩
      have vb : Chg c (joinD c x u) := ⟨hb, fb.mono (by decide) (Nat.le_trans q22 q40)⟩
      have vl : Chg c (joinD c u z) := ⟨hl, fl.mono (by decide) (Nat.le_trans q23 q40)⟩
      have hn : has (dK c) (lessD c v v) := lessD_has ho hv hv
      have vn : Chg c (lessD c v v) := ⟨hn, (lessD_fits ho hv hv fv fv).mono (by decide) (by decide +kernel)⟩
      have hn2 : has (dK c) (lessD c (ledD c v x) (ledD c v x)) := lessD_has ho hm hm
      have vn2 : Chg c (lessD c (ledD c v x) (ledD c v x)) := ⟨hn2, (lessD_fits ho hm hm fm fm).mono (by decide) (by decide +kernel)⟩
      have ha : has (dK c) (lessD c v (ledD c v x)) := lessD_has ho hv hm
      have fa : fits 12 (10 ^ 22) (lessD c v (ledD c v x)) := (lessD_fits ho hv hm fv fm).mono (by decide) (by decide +kernel)
      have va : Chg c (lessD c v (ledD c v x)) := ⟨ha, fa.mono (by decide) (Nat.le_trans q22 q40)⟩
      have fxa : fits 16 (10 ^ 23) (joinD c x (lessD c v (ledD c v x))) := (join_fits ho hx ha fx fa).mono (by decide) (by decide +kernel)
      have hxa := join_has ho hx ha
      have vxa : Chg c (joinD c x (lessD c v (ledD c v x))) := ⟨hxa, fxa.mono (by decide) (Nat.le_trans q23 q40)⟩
      have la : ledD c (ledD c v x) (lessD c v (ledD c v x)) = v := less_led ho hv hm
      have a1 : fitD c (ledD c v x) (lessD c v (ledD c v x)) = true := less_fit hv hm
      have sB := showU (by decide) hk hb (fb.mono (Nat.le_refl _) q22)
      have sF := showV (by decide) hk hf (ff.mono (Nat.le_refl _) q22)
      have sX := showU (by decide) hk hx (fx.mono (Nat.le_refl _) q20)
      have sA := showU (by decide) hk ha (fa.mono (Nat.le_refl _) q22)
      have sV := showV (by decide) hk hv (fv.mono (Nat.le_refl _) q20)
      have sL := showU (by decide) hk hl (fl.mono (Nat.le_refl _) q23)
      have hwh : has (dK c) (joinD c (joinD c x u) z) := join_has ho hb hz
      have sW := showU (R := 28) (by decide) hk hwh ((join_fits ho hb hz fb fz).mono (by decide) (by decide +kernel))
      refine q_nil ?_
      refine ⟨_, _, rfl, ?_⟩
      walk_at "qk"
      refine ⟨rfl, RE.eq (joined_ok t vv vx vu f1 f2 (by omega)) ?_⟩
      walk_at "qk"
      refine ⟨rfl, RE.eq (joined_ok t vv vx vu f1 f2 (by omega)) ?_⟩
      walk_at "qk"
      refine ⟨rfl, RE.eq (led_ok t vv vb (by omega)) ?_⟩
      rw [eb]
      walk_at "qk"
      refine ⟨rfl, RE.eq (fits_ok t vv vb (by omega)) ?_⟩
      rw [bb]
      walk_at "qk"
      refine RP.eq (paddl (Nat.le_of_ble_eq_true rfl)) ?_
      walk_at "qk"
      refine ⟨rfl, RE.eq (same' (k := 11) (m := 50000) (by omega) ((ShowsAll.cons sB (.cons sB (.cons sF (.cons (shows_bool _) .nil)))).lst.mono (by decide) (by decide)) (by decide) (by decide)) ?_⟩
      walk_at "qk"
      refine ⟨rfl, RE.eq (ljoin_ok c ho (by omega) (by omega) hv hb hz bb big3 (fb.mono (by decide) (Nat.le_refl _)) (fz.mono (by decide) (Nat.le_refl _))) ?_⟩
      walk_at "qk"
      refine ⟨rfl, RE.eq (joined_ok t vv vb vz bb big3 (by omega)) ?_⟩
      walk_at "qk"
      refine ⟨rfl, RE.eq (joined_ok t vm vu vz f2 f3 (by omega)) ?_⟩
      walk_at "qk"
      refine ⟨rfl, RE.eq (joined_ok t vv vx vl f1 bl (by omega)) ?_⟩
      rw [as]
      walk_at "qk"
      refine ⟨rfl, RE.eq (same' (k := 11) (m := 50000) (by omega) ((ShowsAll.cons sW (.cons sW .nil)).lst.mono (by decide) (by decide)) (by decide) (by decide)) ?_⟩
      walk_at "qk"
      refine ⟨rfl, RE.eq (joined_ok t vm vu vz f2 f3 (by omega)) ?_⟩
      walk_at "qk"
      refine ⟨rfl, RE.eq (same' (by omega) sL (by decide) (by decide)) ?_⟩
      walk_at "qk"
      refine ⟨rfl, RE.eq (nothing_ok t vv (by omega)) ?_⟩
      walk_at "qk"
      refine ⟨rfl, RE.eq (joined_ok t vv vn vx (less_fit hv hv) (by rw [less_led ho hv hv]; exact f1) (by omega)) ?_⟩
      rw [join_still ho hv hx f1]
      walk_at "qk"
      refine ⟨rfl, RE.eq (nothing_ok t vm (by omega)) ?_⟩
      walk_at "qk"
      refine ⟨rfl, RE.eq (joined_ok t vv vx vn2 f1 (less_fit hm hm) (by omega)) ?_⟩
      rw [join_still2 ho hv hx f1]
      walk_at "qk"
      refine ⟨rfl, RE.eq (lless_ok c ho (by omega) (by omega) hv hm ((fv.mono (by decide) (by decide +kernel) : fits 25 (10 ^ 21) v)) (fm.mono (by decide) (Nat.le_refl _))) ?_⟩
      walk_at "qk"
      refine ⟨rfl, RE.eq (back_ok t vv vx f1 (fv.mono (by decide) (Nat.le_refl _)) (fx.mono (by decide) (Nat.le_refl _)) (by omega)) ?_⟩
      walk_at "qk"
      refine ⟨rfl, RE.eq (back_ok t vv vx f1 (fv.mono (by decide) (Nat.le_refl _)) (fx.mono (by decide) (Nat.le_refl _)) (by omega)) ?_⟩
      walk_at "qk"
      refine ⟨rfl, RE.eq (led_ok t vm va (by omega)) ?_⟩
      rw [la]
      walk_at "qk"
      refine RP.eq (paddl (Nat.le_of_ble_eq_true rfl)) ?_
      walk_at "qk"
      refine ⟨rfl, RE.eq (same' (k := 11) (m := 60000) (by omega) ((ShowsAll.cons sX (.cons sX (.cons sA (.cons sA (.cons sV .nil))))).lst.mono (by decide) (by decide)) (by decide) (by decide)) ?_⟩
      walk_at "qk"
      refine ⟨rfl, RE.eq (fits_ok t vm va (by omega)) ?_⟩
      rw [a1]
      walk_at "qk"
      refine RP.eq pnoB ?_
      walk_at "qk"
      refine ⟨rfl, RE.eq (back_ok t vv vx f1 (fv.mono (by decide) (Nat.le_refl _)) (fx.mono (by decide) (Nat.le_refl _)) (by omega)) ?_⟩
      walk_at "qk"
      refine ⟨rfl, RE.eq (joined_ok t vv vx va f1 a1 (by omega)) ?_⟩
      walk_at "qk"
      refine ⟨rfl, RE.eq (stays_ok t vv vxa (by omega)) ?_⟩
      rw [join_fit hv hx ha f1 a1, join_led ho hv hx ha f1 a1, la]
      rw [show (true && decide (v = v)) = true from by rw [decide_eq_true rfl]; rfl]
      walk_at "qk"
      refine RP.eq pnoB ?_
      walk_at "qk"
      exact ⟨_, _, _, _, _, _, _, _, _, _, _, _, _, rfl, (((gF.trans g1).trans g2).trans g3).trans g4⟩
  · rintro env' E ⟨e1, e2, e3, e4, e5, e6, e7, e8, e9, e10, e11, e12, e13, rfl, g⟩
    walk_at "qk"
    rw [g.take]
    exact ⟨rfl, g⟩
end N25
end
section
open M
local macro_rules | `(tactic| walk_at "q1") => `(tactic| (first
  | with_reducible refine q_seq ?_ | with_reducible refine q_sif ?_ | with_reducible refine q_asg ?_ | with_reducible refine q_ret ?_ | with_reducible refine q_next ?_ | with_reducible refine q_drop ?_ | with_reducible refine q_for ?_ | with_reducible refine q_par ?_ | with_reducible refine q_par3 ?_
  | ((with_reducible refine' q_var ?k1 ?_); (case k1 => rfl)) | with_reducible refine q_c ?_ | with_reducible refine q_op ?_ | with_reducible refine q_un ?_ | with_reducible refine q_cons ?_ | with_reducible refine q_nil ?_ | with_reducible refine q_cb ?_ | with_reducible refine q_ty ?_
  | with_reducible refine q_test ?_ | with_reducible refine q_if ?_ | with_reducible refine q_tup ?_ | with_reducible refine q_lst ?_ | with_reducible refine q_and ?_ | with_reducible refine q_or ?_ | with_reducible refine q_not ?_ | with_reducible refine q_andV ?_ | with_reducible refine q_orV ?_ | with_reducible refine q_notV ?_
  | with_reducible refine q_call ?_ | with_reducible refine q_callN ?_ | with_reducible refine q_sl ?_ | with_reducible refine q_onone ?_ | with_reducible refine q_osome ?_ | with_reducible refine q_gname ?_ | with_reducible refine q_gcons ?_ | with_reducible refine q_gnil ?_ | with_reducible refine q_gconsM ?_ | with_reducible refine q_gnilM ?_ | with_reducible refine q_gsub ?_ | ((with_reducible refine' q_gtup ?k1 ?_); (case k1 => rfl))
  | with_reducible refine q_leave ?_ | with_reducible refine q_yes ?_ | with_reducible refine q_it ?_ | with_reducible refine q_if0 ?_ | with_reducible refine q_iR1 ?_ | with_reducible refine q_lstC ?_ | with_reducible refine q_tru ?_ | with_reducible refine q_lc ?_
  | with_reducible refine RP.eq paddi ?_ | with_reducible refine RP.eq psubi ?_ | with_reducible refine RP.eq pinti ?_ | with_reducible refine RP.eq pintb ?_ | with_reducible refine RP.eq pabsi ?_ | with_reducible refine RP.eq pnegi ?_ | with_reducible refine RP.eq peqs ?_ | with_reducible refine RP.eq peqi ?_
  | with_reducible refine RP.eq pnes ?_ | with_reducible refine RP.eq pnei ?_ | with_reducible refine RP.eq pgti ?_ | with_reducible refine RP.eq plei ?_ | with_reducible refine RP.eq pgei ?_ | with_reducible refine RP.eq plti ?_ | with_reducible refine RP.eq plent ?_ | with_reducible refine RP.eq plenl ?_
  | with_reducible refine RP.eq psltt ?_ | with_reducible refine RP.eq psltl ?_
  | ((with_reducible refine' RP.eq (pmuli ?k1) ?_); (case k1 => first | (unfold L2.CMul; omega) | (unfold L2.CMul; decide))) | ((with_reducible refine' RP.eq (pmodi ?k1) ?_); (case k1 => first | omega | decide)) | ((with_reducible refine' RP.eq (pfdivi ?k1) ?_); (case k1 => unfold L2.CDiv; omega)) | ((with_reducible refine' RP.eq (pdivmodi ?k1) ?_); (case k1 => unfold L2.CDiv; omega)) | ((with_reducible refine' RP.eq (pdivmodWi ?k1 ?k2) ?_); (case k1 => omega); (case k2 => omega)) | ((with_reducible refine' RP.eq (ppowi ?k1) ?_); (case k1 => unfold L2.CPow; decide))
  | with_reducible refine q_asB ?_ | ((with_reducible refine' q_allD ?k1 ?_); (case k1 => rfl))
  | with_reducible refine Z.r_nt ?_ | with_reducible refine Z.r_nf ?_
  | with_reducible refine RP.eq isi_int_none ?_ | with_reducible refine RP.eq isi_int_bool ?_ | with_reducible refine RP.eq isi_int_int ?_ | with_reducible refine RP.eq isi_int_str ?_ | with_reducible refine RP.eq isi_int_tuple ?_ | with_reducible refine RP.eq isi_int_list ?_ | with_reducible refine RP.eq isi_bool_none ?_ | with_reducible refine RP.eq isi_bool_bool ?_ | with_reducible refine RP.eq isi_bool_int ?_ | with_reducible refine RP.eq isi_bool_str ?_ | with_reducible refine RP.eq isi_bool_tuple ?_ | with_reducible refine RP.eq isi_bool_list ?_ | with_reducible refine RP.eq isi_tuple_none ?_ | with_reducible refine RP.eq isi_tuple_bool ?_ | with_reducible refine RP.eq isi_tuple_int ?_ | with_reducible refine RP.eq isi_tuple_str ?_ | with_reducible refine RP.eq isi_tuple_tuple ?_ | with_reducible refine RP.eq isi_tuple_list ?_ | with_reducible refine RP.eq isi_str_none ?_ | with_reducible refine RP.eq isi_str_bool ?_ | with_reducible refine RP.eq isi_str_int ?_ | with_reducible refine RP.eq isi_str_str ?_ | with_reducible refine RP.eq isi_str_tuple ?_ | with_reducible refine RP.eq isi_str_list ?_ | with_reducible refine RP.eq isi_list_none ?_ | with_reducible refine RP.eq isi_list_bool ?_ | with_reducible refine RP.eq isi_list_int ?_ | with_reducible refine RP.eq isi_list_str ?_ | with_reducible refine RP.eq isi_list_tuple ?_ | with_reducible refine RP.eq isi_list_list ?_
  | with_reducible refine RP.eq isi_int ?_ | with_reducible refine RP.eq isi_bool ?_ | with_reducible refine RP.eq isi_tuple ?_ | with_reducible refine RP.eq isi_str ?_ | with_reducible refine RP.eq isi_list ?_
  | ((with_reducible refine' q_len ?k1 ?_); (case k1 => rfl)) | ((with_reducible refine' RP.eq (paddt ?k1) ?_); (case k1 => exact Nat.le_of_ble_eq_true rfl))
  | ((with_reducible refine' q_lcons ?k1 ?_); (case k1 => rfl)) | ((with_reducible refine' q_lnil ?k1 ?_); (case k1 => rfl)) | with_reducible refine q_tab ?_ | with_reducible refine q_isTab ?_ | with_reducible refine q_noTab ?_ | with_reducible refine q_str1 ?_ | with_reducible refine q_int1 ?_
  | with_reducible refine RP.eq ptuplel ?_
  | with_reducible refine RP.eq pix0 ?_ | with_reducible refine RP.eq pix1 ?_ | with_reducible refine RP.eq pix2 ?_))
local macro_rules | `(tactic| walk_at "qq") => `(tactic| repeat walk_at "q1")
local macro_rules | `(tactic| walk_at "cell") => `(tactic| first | assumption | (apply M.set_at; walk_at "cell"))
local macro_rules | `(tactic| walk_at "qc") => `(tactic| repeat (first
  | walk_at "q1"
  | ((refine' M.cIx ?k1 ?k2 ?_); (case k1 => walk_at "cell"); (case k2 => rfl))
  | ((refine' M.cSet ?k1 ?k2 ?_); (case k1 => walk_at "cell"); (case k2 => rfl))))
local macro_rules | `(tactic| walk_at "ks") => `(tactic| first | (refine M.q_dec (fun hs => absurd hs (by decide +kernel)) (fun _ => ?_)) | (refine M.q_dec (fun _ => ?_) (fun hs => absurd rfl hs)) | (refine M.q_ndec (fun _ => ?_) (fun hs => absurd hs (by decide +kernel))) | (refine M.q_ndec (fun hs => absurd rfl hs) (fun _ => ?_)))
local macro_rules | `(tactic| walk_at "qk") => `(tactic| repeat (first
  | walk_at "q1"
  | ((refine' M.cIx ?k1 ?k2 ?_); (case k1 => walk_at "cell"); (case k2 => rfl))
  | ((refine' M.cSet ?k1 ?k2 ?_); (case k1 => walk_at "cell"); (case k2 => rfl))
  | walk_at "ks"))
namespace N25
open PySem PySem.Spec PyProof.Rows L2 Z M
theorem urn_ok {N : Nat} {C : Cells} {ns : List Int} {i : Nat} (hN : 1 ≤ N) (hi : i ≤ 10) : RE (m__law_urn N [.d (.list (ns.map PyData.int)), .d (.int (i : Int))] C) fun v C' => ∃ w, v = .c C.length ∧ C' = C ++ [some w] ∧ N25.WellC C.length C' := by
  obtain ⟨n, rfl⟩ : ∃ n, N = n + 1 := ⟨N - 1, by omega⟩
  refine q_fun rfl ?_
  refine q_seq (RSt.nxm (P := fun env F => ∃ (x : Int) (e3 e4 : Option AV), env = [some (.d (.list (ns.map PyData.int))), some (.d (.int (i : Int))), some (.d (.int x)), e3, e4] ∧ F = C) ?_ ?_)
  · walk_at "qk"
    refine q_dec (fun h => ?_) (fun h => ?_)
    · have hl : i < ns.length := by
        rw [List.length_map] at h
        omega
      walk_at "qk"
      refine RP.eq (ixl _ _ i (.int ns[i]) (by rw [List.getElem?_map, List.getElem?_eq_getElem hl]; rfl)) ?_
      walk_at "qk"
      exact ⟨_, _, _, rfl, rfl⟩
    · walk_at "qk"
      exact ⟨_, _, _, rfl, rfl⟩
  · rintro env' F ⟨x, e3, e4, rfl, rfl⟩
    have x0 := Int.emod_nonneg x (show (2147483417 : Int) ≠ 0 by omega)
    have x1 := Int.emod_lt_of_pos x (show (0 : Int) < 2147483417 by omega)
    walk_at "qk"
    refine q_iL ?_
    walk_at "qk"
    refine ⟨_, rfl, ?_⟩
    refine q_loop (fun k env E => ∃ (s : Int) (e4 : Option AV), env = [some (.d (.list (ns.map PyData.int))), some (.d (.int (i : Int))), some (.d (.int x)), some (.d (.int s)), e4] ∧ E = F ∧ 0 ≤ s ∧ s < 2147483563) ⟨_, _, rfl, rfl, by omega, by omega⟩ (fun _ _ _ _ => rfl) ?_ ?_
    · rintro k av env' E hk ⟨s, e4, rfl, rfl, s0, s1⟩
      obtain ⟨d, hd, rfl⟩ := map_at hk
      have hm := cut_mem (List.mem_of_getElem? hd)
      obtain ⟨x, _, rfl⟩ := List.mem_map.mp hm
      walk_at "qk"
      exact ⟨_, _, rfl, rfl, Int.emod_nonneg _ (by omega), Int.emod_lt_of_pos _ (by omega)⟩
    · rintro env' E ⟨s, e4, rfl, rfl, s0, s1⟩
      refine q_seq (RSt.nxm (P := fun env G => ∃ (s : Int), env = [some (.d (.list (ns.map PyData.int))), some (.d (.int (i : Int))), some (.d (.int x)), some (.d (.int s)), e4] ∧ G = E ∧ 0 ≤ s ∧ s < 2147483563) ?_ ?_)
      · walk_at "qk"
        exact ⟨_, rfl, rfl, Int.emod_nonneg _ (by omega), Int.emod_lt_of_pos _ (by omega)⟩
      · rintro env' G ⟨s2, rfl, rfl, t0, t1⟩
        have fin : ∀ a : Int, 0 ≤ a → ∃ a2 C2, leave G.length (.c G.length) (G ++ [some [.int a, .int s2, .int 0]]) = some (a2, C2) ∧ ∃ w, a2 = .c G.length ∧ C2 = G ++ [some w] ∧ N25.WellC G.length C2 := fun a ha => by
          refine ⟨_, _, ?_, _, rfl, rfl, ⟨a, s2, 0, app_at, ha, t0, t1⟩⟩
          show (if G.length < G.length then some (AV.c G.length, List.take G.length (G ++ [some [PyData.int a, .int s2, .int 0]])) else some (AV.c G.length, G ++ [some [PyData.int a, .int s2, .int 0]])) = _
          rw [if_neg (Nat.lt_irrefl _)]
        walk_at "qk"
        refine q_dec (fun h => ?_) (fun h => ?_)
        · walk_at "qk"
          exact fin _ (by split <;> omega)
        · walk_at "qk"
          refine q_dec (fun h2 => ?_) (fun h2 => ?_)
          · walk_at "qk"
            exact fin _ (by split <;> omega)
          · walk_at "qk"
            exact fin _ (by omega)
theorem pmaxi {C : Cells} {i j : Int} : pMax C [.d (.int i), .d (.int j)] = some (.int (if j > i then j else i)) := rfl
theorem pmini {C : Cells} {i j : Int} : pMin C [.d (.int i), .d (.int j)] = some (.int (if j < i then j else i)) := rfl
theorem times_small (L : Nat) : ∃ m : Nat, (if (if (3 : Int) < (L : Int) then (3 : Int) else (L : Int)) > 1 then (if (3 : Int) < (L : Int) then (3 : Int) else (L : Int)) else 1) = (m : Int) ∧ m ≤ 3 := by
  by_cases h1 : (3 : Int) < (L : Int)
  · simp only [if_pos h1]
    exact ⟨3, rfl, Nat.le_refl _⟩
  · simp only [if_neg h1]
    by_cases h2 : (L : Int) > 1
    · exact ⟨L, by rw [if_pos h2], by omega⟩
    · exact ⟨1, by rw [if_neg h2]; rfl, by decide⟩
abbrev fuel : Nat := 140
theorem law_math (ns : List Int) (hl : ns.length ≤ 63) : ∃ C', m_law fuel [.d (.list (ns.map PyData.int))] [] = some (.d (.bool true), C') := by
  have main : RE (m_law fuel [.d (.list (ns.map PyData.int))] []) fun v _ => v = .d (.bool true) := by
    refine q_fun rfl ?_
    walk_at "qk"
    refine RP.eq pmini ?_
    walk_at "qk"
    refine RP.eq pmaxi ?_
    walk_at "qk"
    obtain ⟨m, hm, hm3⟩ := times_small (ns.map PyData.int).length
    rw [hm]
    refine ⟨_, rfl, by omega, ?_⟩
    refine q_loop (fun k env E => ∃ e1, env = [some (.d (.list (ns.map PyData.int))), e1]) ⟨_, rfl⟩ (fun _ _ _ _ => rfl) ?_ ?_
    · rintro k av env' E hi ⟨e1, rfl⟩
      obtain ⟨hk, rfl⟩ := rngs_at hi
      have hk3 : k < 3 := by omega
      walk_at "qk"
      rw [Int.zero_add]
      refine ⟨rfl, (urn_ok (by decide) (by omega)).mono ?_⟩
      rintro _ E1 ⟨w, rfl, rfl, hW⟩
      walk_at "qk"
      refine ⟨rfl, (right_ok (by decide) hW).mono ?_⟩
      rintro _ E2 ⟨rfl, g⟩
      walk_at "qk"
      exact ⟨_, rfl⟩
    · rintro env' E ⟨e1, rfl⟩
      walk_at "qk"
      rfl
  obtain ⟨v, C', e, rfl⟩ := main
  exact ⟨C', e⟩
end N25
end
open PySem PySem.W PyProof.Rows
set_option maxRecDepth 100000 in
set_option maxHeartbeats 0 in
theorem PySem.Challenge.cw_changewise_k25_whole_one_change_behind_t_holds : PySem.Challenge.rw_changewise_k25_whole_one_change_behind_t.Holds := by
  w_on; o_law; k_head; (case hw => w_witness2)
  k_fill
  refine Z.walkG (l := PySem.Challenge.rw_changewise_k25_whole_one_change_behind_t) (k := N25.fuel) (x := "_law_script") (sp := fun K => M.spM K 1 (N25.m_law N25.fuel)) rfl rfl ⟨rfl, by decide, by decide⟩ (fun w h Y => PySem.W.kIn_of Y) ?F (fun K G a ns hl hS => M.law_sp N25.law_math K G a ns hl hS)
  case F =>
    intro w mg fa h KX G hmg
    refine' N25.end_mk N25.fuel KX G hmg ?z0 ?z1 ?z2 ?z3 ?z4 ?z5 ?z6 ?z7 ?z8 ?z9 ?z10 ?z11 ?z12 ?z13 ?z14 ?ca0 ?tl0_0 ?tz0_0 ?tv0_0 ?ca1 ?ca2 ?cl2 ?ck2 ?cz2 ?ci2 ?ca3 ?tl3_0 ?tz3_0 ?tv3_0 ?a0 ?l0 ?c0 ?k0 ?b0 ?a1 ?l1 ?c1 ?k1 ?b1 ?a2 ?l2 ?c2 ?k2 ?b2 ?a3 ?l3 ?c3 ?k3 ?b3 ?a4 ?l4 ?c4 ?k4 ?b4 ?a5 ?l5 ?c5 ?k5 ?b5 ?a6 ?l6 ?c6 ?k6 ?b6 ?a7 ?l7 ?c7 ?k7 ?b7 ?a8 ?l8 ?c8 ?k8 ?b8 ?a9 ?l9 ?c9 ?k9 ?b9 ?a10 ?l10 ?c10 ?k10 ?b10 ?a11 ?l11 ?c11 ?k11 ?b11 ?a12 ?l12 ?c12 ?k12 ?b12 ?a13 ?l13 ?c13 ?k13 ?b13 ?a14 ?l14 ?c14 ?k14 ?b14 ?a15 ?l15 ?c15 ?k15 ?b15 ?a16 ?l16 ?c16 ?k16 ?b16 ?a17 ?l17 ?c17 ?k17 ?b17 ?a18 ?l18 ?c18 ?k18 ?b18 ?a19 ?l19 ?c19 ?k19 ?b19 ?a20 ?l20 ?c20 ?k20 ?b20 ?a21 ?l21 ?c21 ?k21 ?b21 ?a22 ?l22 ?c22 ?k22 ?b22 ?a23 ?l23 ?c23 ?k23 ?b23 ?a24 ?l24 ?c24 ?k24 ?b24 ?a25 ?l25 ?c25 ?k25 ?b25 ?a26 ?l26 ?c26 ?k26 ?b26 ?a27 ?l27 ?c27 ?k27 ?b27 ?a28 ?l28 ?c28 ?k28 ?b28 ?a29 ?l29 ?c29 ?k29 ?b29 ?a30 ?l30 ?c30 ?k30 ?b30 ?a31 ?l31 ?c31 ?k31 ?b31 ?a32 ?l32 ?c32 ?k32 ?b32 ?a33 ?l33 ?c33 ?k33 ?b33 ?a34 ?l34 ?c34 ?k34 ?b34 ?a35 ?l35 ?c35 ?k35 ?b35 ?a36 ?l36 ?c36 ?k36 ?b36 ?a37 ?l37 ?c37 ?k37 ?b37 ?a38 ?l38 ?c38 ?k38 ?b38 ?a39 ?l39 ?c39 ?k39 ?b39 ?a40 ?l40 ?c40 ?k40 ?b40 ?a41 ?l41 ?c41 ?k41 ?b41 ?a42 ?l42 ?c42 ?k42 ?b42 ?a43 ?l43 ?c43 ?k43 ?b43 ?a44 ?l44 ?c44 ?k44 ?b44 ?a45 ?l45 ?c45 ?k45 ?b45 ?a46 ?l46 ?c46 ?k46 ?b46 ?a47 ?l47 ?c47 ?k47 ?b47 ?a48 ?l48 ?c48 ?k48 ?b48 ?a49 ?l49 ?c49 ?k49 ?b49 ?a50 ?l50 ?c50 ?k50 ?b50 ?a51 ?l51 ?c51 ?k51 ?b51 ?x0 ?x1 ?hb
    (case z0 => k_is)
    (case z1 => k_is)
    (case z2 => k_is)
    (case z3 => k_is)
    (case z4 => k_is)
    (case z5 => k_is)
    (case z6 => k_is)
    (case z7 => k_is)
    (case z8 => k_is)
    (case z9 => k_is)
    (case z10 => k_is)
    (case z11 => k_is)
    (case z12 => k_is)
    (case z13 => k_is)
    (case z14 => k_is)
    (case ca0 => k_is)
    (case tl0_0 => k_is)
    (case tz0_0 => decide)
    (case tv0_0 => exact (.cons ⟨_, rfl⟩ (.cons ⟨_, rfl⟩ (.cons ⟨_, rfl⟩ (.cons ⟨_, rfl⟩ (.cons ⟨_, rfl⟩ .nil))))))
    (case ca1 => k_is)
    (case ca2 => k_is)
    (case cl2 => k_is)
    (case ck2 => repeat (first | exact True.intro | refine And.intro ⟨_, _, rfl, rfl⟩ ?_))
    (case cz2 => decide)
    (case ci2 => exact (.cons ⟨⟨_, rfl⟩, .int (0), ⟨_, rfl⟩, fun _ => .int _⟩ (.cons ⟨⟨_, rfl⟩, .int (0), ⟨_, rfl⟩, fun _ => .int _⟩ (.cons ⟨⟨_, rfl⟩, .int (2), ⟨_, rfl⟩, fun _ => .int _⟩ (.cons ⟨⟨_, rfl⟩, .int (2), ⟨_, rfl⟩, fun _ => .int _⟩ (.cons ⟨⟨_, rfl⟩, .int (1), ⟨_, rfl⟩, fun _ => .int _⟩ (.cons ⟨⟨_, rfl⟩, .int (2), ⟨_, rfl⟩, fun _ => .int _⟩ .nil)))))))
    (case ca3 => k_is)
    (case tl3_0 => k_is)
    (case tz3_0 => decide)
    (case tv3_0 => exact (.cons ⟨_, rfl⟩ (.cons ⟨_, rfl⟩ (.cons ⟨_, rfl⟩ (.cons ⟨_, rfl⟩ .nil)))))
    (case a0 => k_is); (case l0 => k_is); (case c0 => k_is); (case k0 => k_is)
    (case b0 => exact fun _ _ _ _ _ _ us hl => match us, hl with | [_], _ => rfl)
    (case a1 => k_is); (case l1 => k_is); (case c1 => k_is); (case k1 => k_is)
    (case b1 => exact fun _ _ _ _ _ _ us hl => match us, hl with | [_, _], _ => rfl)
    (case a2 => k_is); (case l2 => k_is); (case c2 => k_is); (case k2 => k_is)
    (case b2 => exact fun _ _ _ _ _ _ us hl => match us, hl with | [_, _], _ => rfl)
    (case a3 => k_is); (case l3 => k_is); (case c3 => k_is); (case k3 => k_is)
    (case b3 => exact fun _ _ _ _ _ _ us hl => match us, hl with | [_], _ => rfl)
    (case a4 => k_is); (case l4 => k_is); (case c4 => k_is); (case k4 => k_is)
    (case b4 => exact fun _ _ _ _ _ _ us hl => match us, hl with | [_], _ => rfl)
    (case a5 => k_is); (case l5 => k_is); (case c5 => k_is); (case k5 => k_is)
    (case b5 => exact fun _ _ _ _ _ _ us hl => match us, hl with | [_], _ => rfl)
    (case a6 => k_is); (case l6 => k_is); (case c6 => k_is); (case k6 => k_is)
    (case b6 => exact fun _ _ _ _ _ _ us hl => match us, hl with | [_], _ => rfl)
    (case a7 => k_is); (case l7 => k_is); (case c7 => k_is); (case k7 => k_is)
    (case b7 => exact fun _ _ _ _ _ _ us hl => match us, hl with | [_, _, _], _ => rfl)
    (case a8 => k_is); (case l8 => k_is); (case c8 => k_is); (case k8 => k_is)
    (case b8 => exact fun _ _ _ _ _ _ us hl => match us, hl with | [_, _], _ => rfl)
    (case a9 => k_is); (case l9 => k_is); (case c9 => k_is); (case k9 => k_is)
    (case b9 => exact fun _ _ _ _ _ _ us hl => match us, hl with | [_, _, _], _ => rfl)
    (case a10 => k_is); (case l10 => k_is); (case c10 => k_is); (case k10 => k_is)
    (case b10 => exact fun _ _ _ _ _ _ us hl => match us, hl with | [_], _ => rfl)
    (case a11 => k_is); (case l11 => k_is); (case c11 => k_is); (case k11 => k_is)
    (case b11 => exact fun _ _ _ _ _ _ us hl => match us, hl with | [_, _], _ => rfl)
    (case a12 => k_is); (case l12 => k_is); (case c12 => k_is); (case k12 => k_is)
    (case b12 => exact fun _ _ _ _ _ _ us hl => match us, hl with | [_, _, _], _ => rfl)
    (case a13 => k_is); (case l13 => k_is); (case c13 => k_is); (case k13 => k_is)
    (case b13 => exact fun _ _ _ _ _ _ us hl => match us, hl with | [_, _, _], _ => rfl)
    (case a14 => k_is); (case l14 => k_is); (case c14 => k_is); (case k14 => k_is)
    (case b14 => exact fun _ _ _ _ _ _ us hl => match us, hl with | [_, _, _], _ => rfl)
    (case a15 => k_is); (case l15 => k_is); (case c15 => k_is); (case k15 => k_is)
    (case b15 => exact fun _ _ _ _ _ _ us hl => match us, hl with | [_, _, _], _ => rfl)
    (case a16 => k_is); (case l16 => k_is); (case c16 => k_is); (case k16 => k_is)
    (case b16 => exact fun _ _ _ _ _ _ us hl => match us, hl with | [_, _, _, _], _ => rfl)
    (case a17 => k_is); (case l17 => k_is); (case c17 => k_is); (case k17 => k_is)
    (case b17 => exact fun _ _ _ _ _ _ us hl => match us, hl with | [_, _, _, _], _ => rfl)
    (case a18 => k_is); (case l18 => k_is); (case c18 => k_is); (case k18 => k_is)
    (case b18 => exact fun _ _ _ _ _ _ us hl => match us, hl with | [_, _, _], _ => rfl)
    (case a19 => k_is); (case l19 => k_is); (case c19 => k_is); (case k19 => k_is)
    (case b19 => exact fun _ _ _ _ _ _ us hl => match us, hl with | [_], _ => rfl)
    (case a20 => k_is); (case l20 => k_is); (case c20 => k_is); (case k20 => k_is)
    (case b20 => exact fun _ _ _ _ _ _ us hl => match us, hl with | [_, _, _], _ => rfl)
    (case a21 => k_is); (case l21 => k_is); (case c21 => k_is); (case k21 => k_is)
    (case b21 => exact fun _ _ _ _ _ _ us hl => match us, hl with | [_, _], _ => rfl)
    (case a22 => k_is); (case l22 => k_is); (case c22 => k_is); (case k22 => k_is)
    (case b22 => exact fun _ _ _ _ _ _ us hl => match us, hl with | [_, _], _ => rfl)
    (case a23 => k_is); (case l23 => k_is); (case c23 => k_is); (case k23 => k_is)
    (case b23 => exact fun _ _ _ _ _ _ us hl => match us, hl with | [_, _], _ => rfl)
    (case a24 => k_is); (case l24 => k_is); (case c24 => k_is); (case k24 => k_is)
    (case b24 => exact fun _ _ _ _ _ _ us hl => match us, hl with | [_, _], _ => rfl)
    (case a25 => k_is); (case l25 => k_is); (case c25 => k_is); (case k25 => k_is)
    (case b25 => exact fun _ _ _ _ _ _ us hl => match us, hl with | [_], _ => rfl)
    (case a26 => k_is); (case l26 => k_is); (case c26 => k_is); (case k26 => k_is)
    (case b26 => exact fun _ _ _ _ _ _ us hl => match us, hl with | [_, _, _], _ => rfl)
    (case a27 => k_is); (case l27 => k_is); (case c27 => k_is); (case k27 => k_is)
    (case b27 => exact fun _ _ _ _ _ _ us hl => match us, hl with | [_, _, _], _ => rfl)
    (case a28 => k_is); (case l28 => k_is); (case c28 => k_is); (case k28 => k_is)
    (case b28 => exact fun _ _ _ _ _ _ us hl => match us, hl with | [_, _, _], _ => rfl)
    (case a29 => k_is); (case l29 => k_is); (case c29 => k_is); (case k29 => k_is)
    (case b29 => exact fun _ _ _ _ _ _ us hl => match us, hl with | [_, _], _ => rfl)
    (case a30 => k_is); (case l30 => k_is); (case c30 => k_is); (case k30 => k_is)
    (case b30 => exact fun _ _ _ _ _ _ us hl => match us, hl with | [_, _, _], _ => rfl)
    (case a31 => k_is); (case l31 => k_is); (case c31 => k_is); (case k31 => k_is)
    (case b31 => exact fun _ _ _ _ _ _ us hl => match us, hl with | [_, _, _], _ => rfl)
    (case a32 => k_is); (case l32 => k_is); (case c32 => k_is); (case k32 => k_is)
    (case b32 => exact fun _ _ _ _ _ _ us hl => match us, hl with | [_, _, _, _], _ => rfl)
    (case a33 => k_is); (case l33 => k_is); (case c33 => k_is); (case k33 => k_is)
    (case b33 => exact fun _ _ _ _ _ _ us hl => match us, hl with | [_, _, _], _ => rfl)
    (case a34 => k_is); (case l34 => k_is); (case c34 => k_is); (case k34 => k_is)
    (case b34 => exact fun _ _ _ _ _ _ us hl => match us, hl with | [_, _], _ => rfl)
    (case a35 => k_is); (case l35 => k_is); (case c35 => k_is); (case k35 => k_is)
    (case b35 => exact fun _ _ _ _ _ _ us hl => match us, hl with | [_, _], _ => rfl)
    (case a36 => k_is); (case l36 => k_is); (case c36 => k_is); (case k36 => k_is)
    (case b36 => exact fun _ _ _ _ _ _ us hl => match us, hl with | [_, _], _ => rfl)
    (case a37 => k_is); (case l37 => k_is); (case c37 => k_is); (case k37 => k_is)
    (case b37 => exact fun _ _ _ _ _ _ us hl => match us, hl with | [_, _], _ => rfl)
    (case a38 => k_is); (case l38 => k_is); (case c38 => k_is); (case k38 => k_is)
    (case b38 => exact fun _ _ _ _ _ _ us hl => match us, hl with | [], _ => rfl)
    (case a39 => k_is); (case l39 => k_is); (case c39 => k_is); (case k39 => k_is)
    (case b39 => exact fun _ _ _ _ _ _ us hl => match us, hl with | [_, _], _ => rfl)
    (case a40 => k_is); (case l40 => k_is); (case c40 => k_is); (case k40 => k_is)
    (case b40 => exact fun _ _ _ _ _ _ us hl => match us, hl with | [_, _], _ => rfl)
    (case a41 => k_is); (case l41 => k_is); (case c41 => k_is); (case k41 => k_is)
    (case b41 => exact fun _ _ _ _ _ _ us hl => match us, hl with | [_], _ => rfl)
    (case a42 => k_is); (case l42 => k_is); (case c42 => k_is); (case k42 => k_is)
    (case b42 => exact fun _ _ _ _ _ _ us hl => match us, hl with | [_], _ => rfl)
    (case a43 => k_is); (case l43 => k_is); (case c43 => k_is); (case k43 => k_is)
    (case b43 => exact fun _ _ _ _ _ _ us hl => match us, hl with | [_, _], _ => rfl)
    (case a44 => k_is); (case l44 => k_is); (case c44 => k_is); (case k44 => k_is)
    (case b44 => exact fun _ _ _ _ _ _ us hl => match us, hl with | [_, _], _ => rfl)
    (case a45 => k_is); (case l45 => k_is); (case c45 => k_is); (case k45 => k_is)
    (case b45 => exact fun _ _ _ _ _ _ us hl => match us, hl with | [_, _], _ => rfl)
    (case a46 => k_is); (case l46 => k_is); (case c46 => k_is); (case k46 => k_is)
    (case b46 => exact fun _ _ _ _ _ _ us hl => match us, hl with | [_, _, _], _ => rfl)
    (case a47 => k_is); (case l47 => k_is); (case c47 => k_is); (case k47 => k_is)
    (case b47 => exact fun _ _ _ _ _ _ us hl => match us, hl with | [_, _, _], _ => rfl)
    (case a48 => k_is); (case l48 => k_is); (case c48 => k_is); (case k48 => k_is)
    (case b48 => exact fun _ _ _ _ _ _ us hl => match us, hl with | [_, _, _], _ => rfl)
    (case a49 => k_is); (case l49 => k_is); (case c49 => k_is); (case k49 => k_is)
    (case b49 => exact fun _ _ _ _ _ _ us hl => match us, hl with | [_, _, _], _ => rfl)
    (case a50 => k_is); (case l50 => k_is); (case c50 => k_is); (case k50 => k_is)
    (case b50 => exact fun _ _ _ _ _ _ us hl => match us, hl with | [_], _ => rfl)
    (case a51 => k_is); (case l51 => k_is); (case c51 => k_is); (case k51 => k_is)
    (case b51 => exact fun _ _ _ _ _ _ us hl => match us, hl with | [_], _ => rfl)
    (case x0 => exact fun _ _ _ _ _ _ us hl => match us, hl with | [_, _, _], _ => rfl)
    (case x1 => exact fun _ _ _ _ _ _ us hl => match us, hl with | [_, _, _, _], _ => rfl)
    (case hb => exact fun s v => .of_eq rfl)
