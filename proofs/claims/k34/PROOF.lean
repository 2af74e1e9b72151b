import PyProof.Rows.All
import Wide.All
import OpenK.AllK
import Wide.FinOn
import HandS.ForMost
import HandS.Deep
import HandS.ListEq
import HandS.Wide
import HandS.EndBits
import KE.SortData
import HandS.More
import HandS.Iter
import HandS.Style
import KE.KDictZip
import KE.KDictSum
import HandS.DictTup
import HandS.IsInst
import HandS.Codes
import KE.GoesMore
import HandS.SlotsOwn
import OpenK.KOps
import HandS.WideBits
import HandS.Steps
import HandS.TupAny
import HandS.FStr
import HandS.Flow
import HandS.Conv
import PyProof.InstNe
import HandS.RevRange
import HandS.Dict
import KE.KDictDisplayH
import HandS.TupLen
import HandS.SortKw
import HandS.Small
import KE.DataMinMax
import KE.DataAny
import PySem.Challenge.RW_packedseats_k34_light_for_several
set_option Elab.async false
set_option linter.all false
set_option maxRecDepth 100000
set_option maxHeartbeats 4000000
namespace GL
open PySem PySem.Spec PyProof.Rows L2
/-- a promise kept wherever no repr is under way -/
structure FnG (P : Program) (w : World) (K : PySem.W.Frag) (mg : Str → Option Value) (base : Heap)
    (k : Nat) (f : Addr) (fd : FuncData) (ps : List Str) (sp : Sp) : Prop where
  ln : ∀ vs H Q E, sp vs H Q E → vs.length = ps.length
  go : ∀ (A : Around) (outer : List Env) (s : Shared) (H : Hp) (args : Args) (us : List Value)
    (vs : List V) (Q : VK) (E : XK), A.guards = some [] → Room k A →
    Env0 P w K mg base A outer s H → BindsTo s fd args (ps.zip us) → Vals vs us →
    sp vs H Q E → codeAny (model P w) A (.call (.ref f) args) (CR CX0 outer P w H s Q E) s
variable {X : Cx} {k : Nat} {f : Addr} {fd : FuncData} {ps : List Str} {sp : Sp}
theorem FnG.mono {P : Program} {w : World} {K : PySem.W.Frag} {mg : Str → Option Value} {base : Heap}
    {j : Nat} (G : FnG P w K mg base j f fd ps sp) (h : j ≤ k) : FnG P w K mg base k f fd ps sp :=
  ⟨G.ln, fun A o s H a us vs Q E hg hr => G.go A o s H a us vs Q E hg (hr.mono h)⟩
theorem FnG.of {P : Program} {w : World} {K : PySem.W.Frag} {mg : Str → Option Value} {base : Heap}
    (G : FnOk P w K mg base CX0 k f fd ps sp) : FnG P w K mg base k f fd ps sp :=
  ⟨G.len, fun A o s H a us vs Q E _ hr => G.run A o s H a us vs Q E hr⟩
theorem runG {pins : List (Addr × Obj)} {σ : L2.St} {H : Hp} {s : Shared} {Q : VK} {us : List Value} {vs : List V} {E : XK}
    (G : FnG X.prog X.w X.K X.mg X.base k f fd ps sp) (hg : X.A.guards = some []) (hr : Room k X.A)
    (hb : Binds X.K fd ps []) (hx : Passes CX0 X E) (I : Inv X pins σ H s) (r : Vals vs us) (h : sp vs H Q E) :
    wpAny (model X.prog X.w) X.A (call (.ref f) us) (EP X pins σ Q) X.xe s := by
  have hl : (us ++ []).length = ps.length := by
    rw [List.append_nil, ← r.length]; exact G.ln _ _ _ _ h
  have hbb := hb s us I.kIn hl
  rw [List.append_nil] at hbb
  refine wpAny_call (codeAny_mono (G.go X.A X.stack s H ⟨us, []⟩ us vs Q E hg hr I.env0 hbb r h) fun z s' hq => ?_)
  cases z with
  | error e => exact hx pins σ H s e s' I hq
  | ok fl => cases fl with
    | ret u => exact I.after hq
    | next => exact hq.elim
    | brk => exact hq.elim
    | cont => exact hq.elim
theorem pe_callG {x : Str} {p pos : Pos} {e : Expr} {es : List Expr} {t : TA} {E : XK}
    (G : FnG X.prog X.w X.K X.mg X.base k f fd ps sp) (hg : X.A.guards = some []) (hr : Room k X.A)
    (hgl : Gl X x) (hm : X.mg x = some (.ref f)) (hk : PySem.W.keepIn X.K (.ref f) = true)
    (hb : Binds X.K fd ps []) (hx : Passes CX0 X E) (ha : PA X (e :: es) t)
    (hdb : (x == ("__debug__" : Str)) = false := by decide)
    (he : starEach (e :: es) X.env = (false, eval e X.env) :: starEach es X.env := by rfl)
    (hpl : (backTo pos (starEach es X.env)).any (·.1) = false := by rfl) :
    PE X (.Call (.Name x p) (e :: es) [] pos) (tCall sp [] E t) := by
  refine ⟨fun pins s σ H Q I h => wpAny_Call_Name_kw (ld_glob I hgl hm ?_ hdb)⟩
  refine PySem.W.callWith_K (h₀ := X.base) I.ok.mod.kin hk
    (thn (ha.run pos pins s σ H _ I h) fun us s1 ⟨vs, H1, I1, r, q⟩ => ⟨I1.kIn, ?_⟩) he hpl
  have q' : sp (vs ++ []) H1 Q E := q
  rw [List.append_nil] at q'
  exact runG G hg hr hb hx I1 r q'
/-- the rule for a def, its guards told -/
theorem okG {P : Program} {w : World} {K : PySem.W.Frag} {mg : Str → Option Value} {base : Heap} {x qual : Str} {st : Stmt} {N : List Str}
    (F : Fun K x qual st f fd) (S : FnScope N ps (defScope st)) (len : ∀ vs H Q E, sp vs H Q E → vs.length = ps.length)
    (hbody : ∀ (cdv : Value) (A : Around) (outer : List Env) (s : Shared) (H : Hp) (vs : List V) (Q : VK) (E : XK),
      A.guards = some [] → Room k (A.deeper (envOfC qual (defScope st) s.heap.objs.size f cdv)) → sp vs H Q E →
      ∃ t, PSs (cxOf CX0 P w K mg base N qual (defScope st) f cdv A outer s H E).nox (defBody st) t ∧
        t { nx := fun _ H' => Q .non H', rt := Q } (start N vs) H) : FnG P w K mg base (k + 1) f fd ps sp := by
  obtain ⟨oc, od, kV, doc, pm, an, cdv, ct, osl, rfl, lk, hcd⟩ := F.ex
  refine ⟨len, fun A outer s H args us vs Q E hgd hr e0 hb r hsp => ?_⟩
  have hl := len _ _ _ _ hsp
  have kin : K.In s.heap := e0.mod.kin.keeps fun b o z => (e0.bs b o z).1
  have nol : s.heap.NoLimit := e0.mod.nolimit.keeps fun b o z => (e0.bs b o z).1
  have hkd : ∀ y ∈ ps.zip us, (defScope st).names.lookup y.1 = some .local ∨
      ((defScope st).names.lookup y.1 = some .cell ∧
        ((cellsFrom (s.heap.objs.size + 1) (defScope st).names []).lookup y.1).isSome = true) := by
    rintro ⟨n, v⟩ hy
    rcases S.par n (List.of_mem_zip hy).1 with q | q
    · exact .inl q
    · exact .inr ⟨q, PySem.W.cellsFrom_some _ _ _ (.inl q)⟩
  refine codeAny_call_function hr.depth (kin _ _ lk) rfl S.co S.gen rfl (PySem.W.codeRec_of kin hcd) (hb _ _ _ _ ?_)
  refine wpAny_newFunctionEnv_cells S.kind hkd fun env he s1 x1 => ?_
  subst he
  refine ⟨nol.keeps x1.toInCall.keep, codeAny_func ?_⟩
  obtain ⟨t, ht0, hq⟩ := hbody cdv A outer s H vs Q E hgd (hr.deeper _) hsp
  have ht := ht0.nox
  have J : L2.Inv (cxOf CX0 P w K mg base N qual (defScope st) f cdv A outer s H E) [] (start N vs) H s1 :=
    inv_start S hr.hd e0 hl r x1
  refine wpAny_mono (ht.run [] s1 (start N vs) H _ J hq) (fun fl s' hs => ?_) fun e s' hs => hs
  cases fl with
  | ret u =>
    obtain ⟨v, σ', H', J2, rv, q⟩ := hs
    exact ⟨v, H', J2.os, J2.bare, J2.base, J2.hok, rv, q⟩
  | next =>
    obtain ⟨σ', H', J2, q⟩ := hs
    exact ⟨V.non, H', J2.os, J2.bare, J2.base, J2.hok, rfl, q⟩
  | brk =>
    obtain ⟨_, _, _, q⟩ := hs
    exact q.elim
  | cont =>
    obtain ⟨_, _, _, q⟩ := hs
    exact q.elim
end GL

namespace GL
open PySem PySem.Spec PySem.Calls PyProof.Rows L2
/-- the law's own call, from a heap in which only the script is tracked -/
theorem enterG {P : Program} {w : World} {K : PySem.W.Frag} {mg mb : Str → Option Value} {k : Nat} {fa a : Addr} {fd : FuncData} {x : Str} {sp : Sp}
    {s₁ : Shared} {vs : List Value} (KX : K.In s₁.heap) (hns : s₁.heap.Ns mainGlobals mg) (hb : s₁.heap.Ns builtinsNs mb)
    (hbb : ∀ x : Str, x ≠ "__name__" → mb x = bootBuiltins x) (hlim : s₁.heap.NoLimit) (hg : s₁.gens = #[])
    (ha : s₁.heap.get? a = some { cls := .type "list", data := .seq vs.toArray }) (hr : Room k callerA)
    (F : ∀ base : Heap, K.In base → base.Ns mainGlobals mg → FnG P w K mg base k fa fd [x] sp)
    (hbind : ∀ (s : Shared) (u : Value), BindsTo s fd ⟨[u], []⟩ [(x, u)])
    (H : Hp) (hO : Only H) (hsp : sp [.ref a] H (fun v _ => v = .bl true) fun _ _ _ => False)
    (ok : HOk P w H s₁.heap) (hA : ∀ b, H b ≠ none → b = a) (hK : H a ≠ none → K.lookup a = none) :
    codeAny (model P w) callerA (.call (.ref fa) ⟨[.ref a], []⟩)
      (fun r s' => r = .ok (.ret (.bool true)) ∧ OldK s₁.heap s'.heap ∧ s'.os = s₁.os ∧ AllBare s'.gens) s₁ := by
  have some_a : ∀ {b : Addr} {u : HO}, H b = some u → b = a := fun {b u} e => hA b (by rw [e]; exact fun z => nomatch z)
  have keepN : ∀ {b : Addr} {m : Str → Option Value}, s₁.heap.Ns b m → (hidT s₁.heap H).Ns b m := by
    rintro b m ⟨o, es, ep, e, d, r⟩
    refine ⟨o, es, ep, hidT_get e ?_, d, r⟩
    cases q : H b with
    | none => rfl
    | some u =>
      have e1 := some_a q
      subst e1
      rw [ha] at e
      cases e
      exact absurd (show Data.seq vs.toArray _ = Data.dict es ep from d) (fun z => nomatch z)
  have kin : K.In (hidT s₁.heap H) := by
    intro b o e
    refine hidT_get (KX b o e) ?_
    cases q : H b with
    | none => rfl
    | some u =>
      have e1 := some_a q
      subst e1
      have e2 := hK (by rw [q]; exact fun z => nomatch z)
      rw [e] at e2
      cases e2
  obtain ⟨mc, c1, c2⟩ := hlim
  have hM : Mod K mg (hidT s₁.heap H) := ⟨kin, keepN hns, ⟨mb, keepN hb, hbb⟩, ⟨mc, keepN c1, c2⟩⟩
  have start0 : Env0 P w K mg (hidT s₁.heap H) callerA [] s₁ H :=
    ⟨rfl, hM, fun b o e => of_hidT e, Nat.le_of_eq (hidT_size _ _), trivial,
      fun b hb => absurd (show b ∈ ([] : List Addr) from hb) (by simp), ok, .of_eq hg⟩
  have run := (F _ kin (keepN hns)).go callerA [] s₁ H ⟨[.ref a], []⟩ [.ref a] [.ref a] _ _ rfl hr start0
    (hbind s₁ (.ref a)) (.cons rfl .nil) hsp
  refine codeAny_mono run fun r s' h => ?_
  cases r with
  | error e => exact False.elim h
  | ok fl => cases fl with
    | next => exact False.elim h
    | brk => exact False.elim h
    | cont => exact False.elim h
    | ret u =>
      obtain ⟨v, H', os, bare, un, hok', r', q⟩ := h
      cases (show v = .bl true from q)
      cases (show u = Value.bool true from r')
      refine ⟨rfl, OldK.of_keep fun b o e => ?_, os, bare⟩
      cases q : H b with
      | none => exact un.keep b o e q (fun z => nomatch (show b ∈ ([] : List Addr) from z)) (by simp)
      | some u =>
        rcases hO b with z | ⟨ob, xs, z⟩
        · rw [q] at z
          cases z
        · obtain ⟨e1, _⟩ := ok b _ z
          obtain ⟨e2, _⟩ := hok' b _ (un.frzs b ob _ z)
          rw [e] at e1
          cases e1
          exact e2
theorem walkG {l : PySem.W.OpenLaw} {n k : Nat} {q : Program} {loose : List Str} {XP : (Str → Option Value) → Heap → Prop}
    {YP : World → Heap → Prop} {d : DefRec} {K : Params → PySem.W.Frag} {sp : World → Sp} {x : Str}
    (hn : l.most = some n) (hn2 : n ≤ sizeLine) (hdf : d.params.defaults = []) (hr : Room k callerA)
    (hY : ∀ (w : World) (h : Heap), YP w h → (K w.params).In h)
    (F : ∀ (w : World) (mg : Str → Option Value) (fa : Addr) (h : Heap), (K w.params).In h → h.Ns mainGlobals mg → mg d.name = some (.ref fa) →
      ∃ fd : FuncData, (∀ (s : Shared) (u : Value), BindsTo s fd ⟨[u], []⟩ [(x, u)]) ∧
        ∀ base : Heap, (K w.params).In base → base.Ns mainGlobals mg → FnG l.prog w (K w.params) mg base k fa fd [x] (sp w))
    (hsp : ∀ (w : World) (H : Hp) (a : Addr) (ns : List Int), ns.length ≤ n → (∀ z ∈ ns, Builtin.Int.intBits z ≤ 1048576) → Only H →
      SqL (K w.params) H a (ns.map V.int) → sp w [.ref a] H (fun v _ => v = .bl true) fun _ _ _ => False) :
    PySem.W.WalkO q loose XP YP l.row.toRowW d [] (fun f vs => PySem.call f vs) := by
  refine Att.attach_callB hn hdf fun w s₀ s₁ mg mb fa o pm cd doc a vs ns G Y ho hd hcd hmg hobj hints hlen hbits hg => ?_
  have KX := hY w _ Y
  obtain ⟨fd, hb, hF⟩ := F w mg fa _ KX G.T.g hmg
  have rv := vals_ints hints
  have lenV := hints.length
  have hl2 : ns.length ≤ sizeLine := Nat.le_trans hlen hn2
  cases hk : (K w.params).lookup a with
  | some o2 =>
    have e := KX a o2 hk
    rw [hobj] at e
    cases e
    have hS : SqL (K w.params) (fun _ => none) a (ns.map V.int) :=
      .inr ⟨_, vs.toArray, _, hk, rfl, rfl, rfl, by rw [List.size_toArray, lenV]; exact hl2, by simpa using rv⟩
    exact enterG KX G.T.g G.T.b G.T.builtins G.T.nolimit hg hobj hr hF hb (fun _ => none) (fun _ => .inl rfl)
      (hsp w _ a ns hlen hbits (fun _ => .inl rfl) hS) (fun b u z => nomatch (show (none : Option HO) = some u from z))
      (fun b z => absurd rfl z) (fun z => absurd rfl z)
  | none =>
    let H : Hp := fun b => if b = a then some (.frz { cls := .type "list", data := .seq vs.toArray } (.lst (ns.map V.int))) else none
    have hO : Only H := fun b => by
      by_cases hb : b = a
      · exact .inr ⟨_, _, if_pos hb⟩
      · exact .inl (if_neg hb)
    have hS : SqL (K w.params) H a (ns.map V.int) := .inl (.inr ⟨{ cls := .type "list", data := .seq vs.toArray }, if_pos rfl⟩)
    refine enterG KX G.T.g G.T.b G.T.builtins G.T.nolimit hg hobj hr hF hb H hO (hsp w H a ns hlen hbits hO hS) (fun b u z => ?_) (fun b z => ?_) fun _ => hk
    · by_cases hb : b = a
      · have z' := (if_pos hb).symm.trans z
        cases z'
        subst hb
        exact ⟨hobj, by rw [List.length_map]; exact hl2, vs, _, rv, hobj⟩
      · have z' := (if_neg hb).symm.trans z
        cases z'
    · by_cases hb : b = a
      · exact hb
      · exact absurd (if_neg hb) z
end GL

namespace DL
open PySem PySem.Spec PyProof.Rows L2
/-! data without addresses -/
inductive D where
  | non | bl (b : Bool) | int (i : Int) | str (x : Str) | lst (ds : List D) | tup (ds : List D)
  | obj (C : Addr) (ns : List Str) (ds : List D) | bag | fn (a : Addr)
/-- where the bag and its cells stand, if there is one -/
abbrev Bg := Option (Addr × Addr)
def Ex (F G : Hp) : Prop := ∀ a o, F a = some o → G a = some o
theorem Ex.refl (F : Hp) : Ex F F := fun _ _ h => h
theorem Ex.trans {F G J : Hp} (x : Ex F G) (y : Ex G J) : Ex F J := fun a o h => y a o (x a o h)
theorem Ex.new {F : Hp} {p : Addr} {o : HO} (h : F p = none) : Ex F (upd F p o) := fun a u e => by
  rw [upd_ne (ne_of_none e h)]; exact e
section
variable (K : PySem.W.Frag) (b : Bg) (F : Hp)
mutual
inductive Dv : V → D → Prop
  | non : Dv .non .non
  | bl (c : Bool) : Dv (.bl c) (.bl c)
  | int (i : Int) : Dv (.int i) (.int i)
  | str (x : Str) : Dv (.str x) (.str x)
  | lst {a : Addr} {xs : List V} {ds : List D} : F a = some (.lst xs) → DvA xs ds → Dv (.ref a) (.lst ds)
  | tup {a : Addr} {xs : List V} {ds : List D} : SqT K F a xs → DvA xs ds → Dv (.ref a) (.tup ds)
  | obj {a C dx : Addr} {fs : List (Str × V)} {ds : List D} : F a = some (.ins C dx fs) → DvA (fs.map (·.2)) ds → Dv (.ref a) (.obj C (fs.map (·.1)) ds)
  | bag {a c : Addr} : b = some (a, c) → Dv (.ref a) .bag
  | fn (a : Addr) : Dv (.ref a) (.fn a)
inductive DvA : List V → List D → Prop
  | nil : DvA [] []
  | cons {v : V} {vs : List V} {d : D} {ds : List D} : Dv v d → DvA vs ds → DvA (v :: vs) (d :: ds)
end
end
section
variable {K : PySem.W.Frag} {b : Bg} {F G : Hp}
theorem exL {a : Addr} {xs : List V} (e : Ex F G) (h : SqL K F a xs) : SqL K G a xs := by
  rcases h with (h | ⟨o, h⟩) | h
  · exact .inl (.inl (e _ _ h))
  · exact .inl (.inr ⟨o, e _ _ h⟩)
  · exact .inr h
theorem exT {a : Addr} {xs : List V} (e : Ex F G) (h : SqT K F a xs) : SqT K G a xs := by
  rcases h with (h | ⟨o, h⟩) | h
  · exact .inl (.inl (e _ _ h))
  · exact .inl (.inr ⟨o, e _ _ h⟩)
  · exact .inr h
mutual
theorem Dv.up (e : Ex F G) : ∀ (d : D) (v : V), Dv K b F v d → Dv K b G v d
  | .non, _, h => by cases h; exact .non
  | .bl _, _, h => by cases h; exact .bl _
  | .int _, _, h => by cases h; exact .int _
  | .str _, _, h => by cases h; exact .str _
  | .lst ds, _, h => by cases h with | lst s a => exact .lst (e _ _ s) (DvA.up e ds _ a)
  | .tup ds, _, h => by cases h with | tup s a => exact .tup (exT e s) (DvA.up e ds _ a)
  | .obj _ _ ds, _, h => by cases h with | obj s a => exact .obj (e _ _ s) (DvA.up e ds _ a)
  | .bag, _, h => by cases h with | bag s => exact .bag s
  | .fn _, _, h => by cases h; exact .fn _
theorem DvA.up (e : Ex F G) : ∀ (ds : List D) (vs : List V), DvA K b F vs ds → DvA K b G vs ds
  | [], _, h => by cases h; exact .nil
  | d :: ds, _, h => by cases h with | cons x y => exact .cons (Dv.up e d _ x) (DvA.up e ds _ y)
end
theorem DvA.len : ∀ {vs : List V} {ds : List D}, DvA K b F vs ds → vs.length = ds.length
  | [], _, h => by cases h; rfl
  | _ :: vs, _, h => by cases h with | cons _ y => rw [List.length_cons, List.length_cons, DvA.len y]
theorem DvA.get : ∀ {vs : List V} {ds : List D} {i : Nat} {d : D}, DvA K b F vs ds → ds[i]? = some d → ∃ v, vs[i]? = some v ∧ Dv K b F v d
  | _, [], _, _, _, e => by simp at e
  | _, d :: ds, 0, _, h, e => by cases h with | cons x _ => (simp at e; subst e; exact ⟨_, rfl, x⟩)
  | _, d :: ds, i + 1, _, h, e => by
    cases h with
    | cons _ y =>
      obtain ⟨v, h1, h2⟩ := DvA.get (i := i) y (by simpa using e)
      exact ⟨v, by simpa using h1, h2⟩
theorem DvA.getV : ∀ {vs : List V} {ds : List D} {i : Nat} {v : V}, DvA K b F vs ds → vs[i]? = some v → ∃ d, ds[i]? = some d ∧ Dv K b F v d
  | [], _, _, _, _, e => by simp at e
  | _ :: _, _, 0, _, h, e => by cases h with | cons x _ => (simp at e; subst e; exact ⟨_, rfl, x⟩)
  | _ :: _, _, i + 1, _, h, e => by
    cases h with
    | cons _ y =>
      obtain ⟨d, h1, h2⟩ := DvA.getV (i := i) y (by simpa using e)
      exact ⟨d, by simpa using h1, h2⟩
theorem DvA.app : ∀ {vs us : List V} {ds es : List D}, DvA K b F vs ds → DvA K b F us es → DvA K b F (vs ++ us) (ds ++ es)
  | [], _, _, _, h, h2 => by cases h; exact h2
  | _ :: _, _, _, _, h, h2 => by cases h with | cons x y => exact .cons x (DvA.app y h2)
theorem DvA.take (n : Nat) : ∀ {vs : List V} {ds : List D}, DvA K b F vs ds → DvA K b F (vs.take n) (ds.take n)
  := fun {vs} => by
    induction n generalizing vs with
    | zero => intro ds h; exact .nil
    | succ n ih => intro ds h; cases h with
      | nil => exact .nil
      | cons x y => exact .cons x (ih y)
theorem DvA.drop (n : Nat) : ∀ {vs : List V} {ds : List D}, DvA K b F vs ds → DvA K b F (vs.drop n) (ds.drop n)
  := fun {vs} => by
    induction n generalizing vs with
    | zero => intro ds h; exact h
    | succ n ih => intro ds h; cases h with
      | nil => exact .nil
      | cons x y => exact ih y
theorem DvA.set {v : V} {d : D} (hd : Dv K b F v d) : ∀ {vs : List V} {ds : List D} (n : Nat), DvA K b F vs ds → DvA K b F (vs.set n v) (ds.set n d)
  | [], _, _, h => by cases h; exact .nil
  | _ :: _, _, 0, h => by cases h with | cons _ y => exact .cons hd y
  | _ :: _, _, n + 1, h => by cases h with | cons x y => exact .cons x (DvA.set hd n y)
theorem DvA.one {v : V} {d : D} (h : Dv K b F v d) : DvA K b F [v] [d] := .cons h .nil
theorem DvA.rev : ∀ {vs : List V} {ds : List D}, DvA K b F vs ds → DvA K b F vs.reverse ds.reverse
  | [], _, h => by cases h; exact .nil
  | _ :: _, _, h => by
    cases h with
    | cons x y => rw [List.reverse_cons, List.reverse_cons]; exact (DvA.rev y).app (.one x)
theorem DvA.ints : ∀ {vs : List V} {ns : List Int}, DvA K b F vs (ns.map D.int) → vs = ns.map V.int
  | _, [], h => by cases h; rfl
  | _, n :: ns, h => by cases h with | cons x y => (cases x; rw [DvA.ints y]; rfl)
theorem DvA.bls : ∀ {vs : List V} {ns : List Bool}, DvA K b F vs (ns.map D.bl) → vs = ns.map V.bl
  | _, [], h => by cases h; rfl
  | _, n :: ns, h => by cases h with | cons x y => (cases x; rw [DvA.bls y]; rfl)
theorem DvA.strs : ∀ {vs : List V} {ns : List Str}, DvA K b F vs (ns.map D.str) → vs = ns.map V.str
  | _, [], h => by cases h; rfl
  | _, n :: ns, h => by cases h with | cons x y => (cases x; rw [DvA.strs y]; rfl)
theorem DvA.of_ints : ∀ (ns : List Int), DvA K b F (ns.map V.int) (ns.map D.int)
  | [] => .nil
  | n :: ns => .cons (.int n) (DvA.of_ints ns)
end
/-! the bag -/
structure BagOk (K : PySem.W.Frag) (F H : Hp) (a c : Addr) : Prop where
  out : F a = none
  bag : ∃ x y z : Int, H a = some (.lst [.int x, .int y, .int z, .ref c]) ∧ 0 ≤ x ∧ 0 ≤ y ∧ y < 2147483647 ∧ 0 ≤ z
  cell : ∃ ns : List Int, SqL K F c (ns.map V.int) ∧ ∀ n ∈ ns, 0 ≤ n
structure Wd (K : PySem.W.Frag) (b : Bg) (F H : Hp) : Prop where
  ex : Ex F H
  bag : ∀ a c, b = some (a, c) → BagOk K F H a c
/-- from one pair of heaps to a later one: what is data stays, what others own stays, the bag may turn -/
structure Step (b : Bg) (F H F' H' : Hp) : Prop where
  ex : Ex F F'
  keep : ∀ a o, (∀ c, b ≠ some (a, c)) → H a = some o → H' a = some o
  out : ∀ a, F a = none → H a ≠ none → F' a = none
theorem Step.refl {b : Bg} {F H : Hp} : Step b F H F H := ⟨Ex.refl _, fun _ _ _ h => h, fun _ h _ => h⟩
theorem Step.trans {b : Bg} {K : PySem.W.Frag} {F H F1 H1 F2 H2 : Hp} (x : Step b F H F1 H1) (y : Step b F1 H1 F2 H2) (w : Wd K b F1 H1) : Step b F H F2 H2 :=
  ⟨x.ex.trans y.ex, fun a o n h => y.keep a o n (x.keep a o n h), fun a h1 h2 => y.out a (x.out a h1 h2) (fun z => by
    by_cases hb : ∃ c, b = some (a, c)
    · obtain ⟨c, hb⟩ := hb
      obtain ⟨_, _, _, e, _⟩ := (w.bag a c hb).bag
      rw [z] at e; cases e
    · cases q : H a with
      | none => exact h2 q
      | some o =>
        have := x.keep a o (fun c e => hb ⟨c, e⟩) q
        rw [z] at this; cases this)⟩
/-- what is fresh later was fresh before -/
theorem Step.fresh {b : Bg} {K : PySem.W.Frag} {F H F1 H1 : Hp} (x : Step b F H F1 H1) (w : Wd K b F1 H1) {p : Addr} (h : H1 p = none) : H p = none := by
  cases q : H p with
  | none => rfl
  | some o =>
    by_cases hb : ∃ c, b = some (p, c)
    · obtain ⟨c, hb⟩ := hb
      obtain ⟨_, _, _, e, _⟩ := (w.bag p c hb).bag
      rw [h] at e; cases e
    · have := x.keep p o (fun c e => hb ⟨c, e⟩) q
      rw [h] at this; cases this
theorem Wd.outN {K : PySem.W.Frag} {b : Bg} {F H : Hp} (w : Wd K b F H) {p : Addr} (h : H p = none) : F p = none := by
  cases q : F p with
  | none => rfl
  | some o => rw [w.ex p o q] at h; cases h
theorem Wd.nb {K : PySem.W.Frag} {b : Bg} {F H : Hp} (w : Wd K b F H) {p : Addr} (h : H p = none) : ∀ c, b ≠ some (p, c) := fun c e => by
  obtain ⟨_, _, _, e, _⟩ := (w.bag p c e).bag
  rw [h] at e; cases e
/-- a new object that is data at once -/
theorem Wd.newD {K : PySem.W.Frag} {b : Bg} {F H : Hp} (w : Wd K b F H) {p : Addr} {o : HO} (h : H p = none) : Wd K b (upd F p o) (upd H p o) ∧ Step b F H (upd F p o) (upd H p o) := by
  have hF := w.outN h
  refine ⟨⟨fun a u e => ?_, fun a c e => ?_⟩, Ex.new hF, fun a u n e => ?_, fun a e1 e2 => ?_⟩
  · by_cases ha : a = p
    · subst ha; rw [upd_same] at e ⊢; exact e
    · rw [upd_ne ha] at e ⊢; exact w.ex a u e
  · have B := w.bag a c e
    have ha : a ≠ p := fun z => w.nb h c (z ▸ e)
    obtain ⟨x, y, z, e1, r⟩ := B.bag
    obtain ⟨ns, s, q⟩ := B.cell
    exact ⟨by rw [upd_ne ha]; exact B.out, ⟨x, y, z, by rw [upd_ne ha]; exact e1, r⟩, ⟨ns, exL (Ex.new hF) s, q⟩⟩
  · rw [upd_ne (ne_of_none e h)]; exact e
  · rw [upd_ne (show a ≠ p from fun z => e2 (by rw [z]; exact h))]; exact e1
/-- a new object that is owned -/
theorem Wd.newO {K : PySem.W.Frag} {b : Bg} {F H : Hp} (w : Wd K b F H) {p : Addr} {o : HO} (h : H p = none) : Wd K b F (upd H p o) ∧ Step b F H F (upd H p o) := by
  have hF := w.outN h
  refine ⟨⟨fun a u e => ?_, fun a c e => ?_⟩, Ex.refl _, fun a u n e => ?_, fun a e1 e2 => e1⟩
  · rw [upd_ne (ne_of_none e hF)]; exact w.ex a u e
  · have B := w.bag a c e
    have ha : a ≠ p := fun z => w.nb h c (z ▸ e)
    obtain ⟨x, y, z, e1, r⟩ := B.bag
    exact ⟨B.out, ⟨x, y, z, by rw [upd_ne ha]; exact e1, r⟩, B.cell⟩
  · rw [upd_ne (ne_of_none e h)]; exact e
/-- an owned object turns -/
theorem Wd.turn {K : PySem.W.Frag} {b : Bg} {F H : Hp} (w : Wd K b F H) {p : Addr} {o : HO} (h : F p = none) (hb : ∀ c, b ≠ some (p, c)) : Wd K b F (upd H p o) := by
  refine ⟨fun a u e => ?_, fun a c e => ?_⟩
  · rw [upd_ne (ne_of_none e h)]; exact w.ex a u e
  · have B := w.bag a c e
    have ha : a ≠ p := fun z => hb c (z ▸ e)
    obtain ⟨x, y, z, e1, r⟩ := B.bag
    exact ⟨B.out, ⟨x, y, z, by rw [upd_ne ha]; exact e1, r⟩, B.cell⟩
/-- an owned object becomes data -/
theorem Wd.frz {K : PySem.W.Frag} {b : Bg} {F H : Hp} (w : Wd K b F H) {p : Addr} {o : HO} (h : F p = none) (hp : H p = some o) (hb : ∀ c, b ≠ some (p, c)) : Wd K b (upd F p o) H := by
  refine ⟨fun a u e => ?_, fun a c e => ?_⟩
  · by_cases ha : a = p
    · subst ha; rw [upd_same] at e; rw [← e]; exact hp
    · rw [upd_ne ha] at e; exact w.ex a u e
  · have B := w.bag a c e
    have ha : a ≠ p := fun z => hb c (z ▸ e)
    obtain ⟨ns, s, q⟩ := B.cell
    exact ⟨by rw [upd_ne ha]; exact B.out, B.bag, ⟨ns, exL (Ex.new h) s, q⟩⟩
end DL

namespace DL
open PySem PySem.Spec PyProof.Rows L2
/-! slots -/
inductive En where
  /-- nothing is known | data | a list of the def's own -/
  | u | d (x : D) | o (ds : List D)
abbrev Env' := List En
structure EnvD (K : PySem.W.Frag) (b : Bg) (H0 F H : Hp) (σ : L2.St) (E : Env') : Prop where
  len : σ.length = E.length
  dat : ∀ (i : Nat) (x : D), E[i]? = some (.d x) → ∃ v, σ[i]? = some (some v) ∧ Dv K b F v x
  own : ∀ (i : Nat) (ds : List D), E[i]? = some (.o ds) → ∃ p vs, σ[i]? = some (some (.ref p)) ∧ H0 p = none ∧ F p = none ∧ (∀ c, b ≠ some (p, c)) ∧ H p = some (.lst vs) ∧ DvA K b F vs ds
  inj : ∀ (i j : Nat) (ds es : List D) (p : Addr), E[i]? = some (.o ds) → E[j]? = some (.o es) → σ[i]? = some (some (.ref p)) → σ[j]? = some (some (.ref p)) → i = j
section
variable {K : PySem.W.Frag} {b : Bg} {H0 F H F' H' : Hp} {σ : L2.St} {E : Env'}
theorem EnvD.step (h : EnvD K b H0 F H σ E) (s : Step b F H F' H') : EnvD K b H0 F' H' σ E :=
  ⟨h.len, fun i x e => let ⟨v, h1, h2⟩ := h.dat i x e; ⟨v, h1, h2.up s.ex⟩, fun i ds e =>
    let ⟨p, vs, h1, h2, h3, h4, h5, h6⟩ := h.own i ds e
    ⟨p, vs, h1, h2, s.out p h3 (fun z => by rw [h5] at z; cases z), h4, s.keep p _ h4 h5, h6.up s.ex⟩, h.inj⟩
theorem set_get {α : Type} {l : List α} {i j : Nat} {x y : α} (h : (l.set i x)[j]? = some y) : (i = j ∧ x = y) ∨ (i ≠ j ∧ l[j]? = some y) := by
  by_cases hij : i = j
  · subst hij
    by_cases hl : i < l.length
    · rw [List.getElem?_set_self hl] at h; exact .inl ⟨rfl, Option.some.inj h⟩
    · rw [List.getElem?_eq_none (by simpa using hl)] at h; cases h
  · rw [List.getElem?_set_ne hij] at h; exact .inr ⟨hij, h⟩
/-- a slot takes data -/
theorem EnvD.setD {i : Nat} {v : V} {x : D} (h : EnvD K b H0 F H σ E) (hv : Dv K b F v x) : EnvD K b H0 F H (σ.set i (some v)) (E.set i (.d x)) := by
  refine ⟨by rw [List.length_set, List.length_set, h.len], fun j y e => ?_, fun j ds e => ?_, fun j k ds es p e1 e2 e3 e4 => ?_⟩
  · rcases set_get e with ⟨rfl, q⟩ | ⟨q, e⟩
    · cases q
      have hi : i < σ.length := by
        rw [h.len]
        exact Nat.lt_of_lt_of_eq (List.getElem?_eq_some_iff.mp e).1 (List.length_set ..)
      exact ⟨v, List.getElem?_set_self hi, hv⟩
    · obtain ⟨w, h1, h2⟩ := h.dat j y e
      exact ⟨w, by rw [List.getElem?_set_ne q]; exact h1, h2⟩
  · rcases set_get e with ⟨_, q⟩ | ⟨q, e⟩
    · cases q
    · obtain ⟨p, vs, h1, r⟩ := h.own j ds e
      exact ⟨p, vs, by rw [List.getElem?_set_ne q]; exact h1, r⟩
  · rcases set_get e1 with ⟨_, q⟩ | ⟨q1, e1⟩
    · cases q
    · rcases set_get e2 with ⟨_, q⟩ | ⟨q2, e2⟩
      · cases q
      · rw [List.getElem?_set_ne q1] at e3
        rw [List.getElem?_set_ne q2] at e4
        exact h.inj j k ds es p e1 e2 e3 e4
/-- a slot takes a list of the def's own -/
theorem EnvD.setO {i : Nat} {p : Addr} {vs : List V} {ds : List D} (h : EnvD K b H0 F H σ E) (h0 : H0 p = none) (hF : F p = none) (hb : ∀ c, b ≠ some (p, c)) (hp : H p = some (.lst vs)) (hd : DvA K b F vs ds)
    (fr : ∀ (j : Nat) (es : List D), j ≠ i → E[j]? = some (.o es) → σ[j]? ≠ some (some (.ref p))) : EnvD K b H0 F H (σ.set i (some (.ref p))) (E.set i (.o ds)) := by
  refine ⟨by rw [List.length_set, List.length_set, h.len], fun j y e => ?_, fun j es e => ?_, fun j k es fs q e1 e2 e3 e4 => ?_⟩
  · rcases set_get e with ⟨_, q⟩ | ⟨q, e⟩
    · cases q
    · obtain ⟨w, h1, h2⟩ := h.dat j y e
      exact ⟨w, by rw [List.getElem?_set_ne q]; exact h1, h2⟩
  · rcases set_get e with ⟨rfl, q⟩ | ⟨q, e⟩
    · cases q
      have hi : i < σ.length := by
        rw [h.len]
        exact Nat.lt_of_lt_of_eq (List.getElem?_eq_some_iff.mp e).1 (List.length_set ..)
      exact ⟨p, vs, List.getElem?_set_self hi, h0, hF, hb, hp, hd⟩
    · obtain ⟨q', us, h1, r⟩ := h.own j es e
      exact ⟨q', us, by rw [List.getElem?_set_ne q]; exact h1, r⟩
  · rcases set_get e1 with ⟨hj, q1⟩ | ⟨hj, e1⟩
    · rcases set_get e2 with ⟨hk, q2⟩ | ⟨hk, e2⟩
      · exact hj.symm.trans hk
      · subst hj
        rcases set_get e3 with ⟨_, z⟩ | ⟨z, _⟩
        · cases z
          rw [List.getElem?_set_ne hk] at e4
          exact absurd e4 (fr k fs (fun z => hk z.symm) e2)
        · exact absurd rfl z
    · rcases set_get e2 with ⟨hk, q2⟩ | ⟨hk, e2⟩
      · subst hk
        rcases set_get e4 with ⟨_, z⟩ | ⟨z, _⟩
        · cases z
          rw [List.getElem?_set_ne hj] at e3
          exact absurd e3 (fr j es (fun z => hj z.symm) e1)
        · exact absurd rfl z
      · rw [List.getElem?_set_ne hj] at e3
        rw [List.getElem?_set_ne hk] at e4
        exact h.inj j k es fs q e1 e2 e3 e4
/-- less is known -/
theorem EnvD.weak {E' : Env'} (h : EnvD K b H0 F H σ E) (hl : E'.length = E.length) (w : ∀ (i : Nat) (n : En), E'[i]? = some n → n = .u ∨ E[i]? = some n) : EnvD K b H0 F H σ E' := by
  refine ⟨h.len.trans hl.symm, fun i x e => ?_, fun i ds e => ?_, fun i j ds es p e1 e2 e3 e4 => ?_⟩
  · rcases w i _ e with z | z
    · cases z
    · exact h.dat i x z
  · rcases w i _ e with z | z
    · cases z
    · exact h.own i ds z
  · rcases w i _ e1 with z | z1
    · cases z
    · rcases w j _ e2 with z | z2
      · cases z
      · exact h.inj i j ds es p z1 z2 e3 e4
theorem EnvD.setU {i : Nat} (h : EnvD K b H0 F H σ E) : EnvD K b H0 F H σ (E.set i .u) :=
  h.weak (List.length_set ..) fun j n e => by
    rcases set_get e with ⟨_, q⟩ | ⟨_, q⟩
    · exact .inl q.symm
    · exact .inr q
/-- the own list of a slot turns -/
theorem EnvD.turn {i : Nat} {p : Addr} {vs : List V} {ds es : List D} (h : EnvD K b H0 F H σ E) (hi : E[i]? = some (.o ds)) (hs : σ[i]? = some (some (.ref p))) (hd : DvA K b F vs es) (hF : F p = none) :
    EnvD K b H0 F (upd H p (.lst vs)) σ (E.set i (.o es)) := by
  refine ⟨by rw [List.length_set, h.len], fun j y e => ?_, fun j fs e => ?_, fun j k fs gs q e1 e2 e3 e4 => ?_⟩
  · rcases set_get e with ⟨_, q⟩ | ⟨q, e⟩
    · cases q
    · exact h.dat j y e
  · rcases set_get e with ⟨rfl, q⟩ | ⟨q, e⟩
    · cases q
      obtain ⟨p', us, h1, h2, h3, h4, h5, h6⟩ := h.own i ds hi
      rw [hs] at h1
      cases h1
      exact ⟨p, vs, hs, h2, h3, h4, upd_same, hd⟩
    · obtain ⟨q', us, h1, h2, h3, h4, h5, h6⟩ := h.own j fs e
      refine ⟨q', us, h1, h2, h3, h4, ?_, h6⟩
      rw [upd_ne (show q' ≠ p from fun z => ?_)]
      · exact h5
      · subst z
        exact q (h.inj i j ds fs q' hi e hs h1)
  · have g : ∀ (j : Nat) (gs : List D), (E.set i (.o es))[j]? = some (.o gs) → ∃ hs, E[j]? = some (.o hs) := fun j gs e => by
      rcases set_get e with ⟨rfl, _⟩ | ⟨_, e⟩
      · exact ⟨_, hi⟩
      · exact ⟨_, e⟩
    obtain ⟨f1, z1⟩ := g j _ e1
    obtain ⟨f2, z2⟩ := g k _ e2
    exact h.inj j k f1 f2 q z1 z2 e3 e4
/-- the own list of a slot becomes data -/
theorem EnvD.frz {i : Nat} {p : Addr} {vs : List V} {ds : List D} (h : EnvD K b H0 F H σ E) (hi : E[i]? = some (.o ds)) (hs : σ[i]? = some (some (.ref p))) (hF : F p = none) (hd : DvA K b F vs ds) :
    EnvD K b H0 (upd F p (.lst vs)) H σ (E.set i (.d (.lst ds))) := by
  have ex : Ex F (upd F p (.lst vs)) := Ex.new hF
  refine ⟨by rw [List.length_set, h.len], fun j y e => ?_, fun j fs e => ?_, fun j k fs gs q e1 e2 e3 e4 => ?_⟩
  · rcases set_get e with ⟨rfl, q⟩ | ⟨q, e⟩
    · cases q
      exact ⟨_, hs, .lst upd_same (hd.up ex)⟩
    · obtain ⟨w, h1, h2⟩ := h.dat j y e
      exact ⟨w, h1, h2.up ex⟩
  · rcases set_get e with ⟨_, q⟩ | ⟨q, e⟩
    · cases q
    · obtain ⟨q', us, h1, h2, h3, h4, h5, h6⟩ := h.own j fs e
      refine ⟨q', us, h1, h2, ?_, h4, h5, h6.up ex⟩
      rw [upd_ne (show q' ≠ p from fun z => ?_)]
      · exact h3
      · subst z
        exact q (h.inj i j ds fs q' hi e hs h1)
  · rcases set_get e1 with ⟨_, q⟩ | ⟨_, e1⟩
    · cases q
    · rcases set_get e2 with ⟨_, q⟩ | ⟨_, e2⟩
      · cases q
      · exact h.inj j k fs gs q e1 e2 e3 e4
end
/-! judgements -/
section
variable (K : PySem.W.Frag) (b : Bg)
/-- t ends, from any heaps that hold E, in data that Φ takes -/
def wpe (t : TE) (E : Env') (Φ : D → Prop) : Prop := ∀ H0 F H σ, Wd K b F H → EnvD K b H0 F H σ E →
  ∀ Q : VK, (∀ v F' H' x, Step b F H F' H' → Wd K b F' H' → Dv K b F' v x → Φ x → Q v H') → t σ H Q
/-- .. in a new list, owned by nobody yet -/
def wpl (t : TE) (E : Env') (Φ : List D → Prop) : Prop := ∀ H0 F H σ, Wd K b F H → EnvD K b H0 F H σ E →
  ∀ Q : VK, (∀ p vs F' H' ds, Step b F H F' H' → Wd K b F' H' → H p = none → F' p = none → H' p = some (.lst vs) → DvA K b F' vs ds → Φ ds → Q (.ref p) H') → t σ H Q
def wpt (t : TT) (E : Env') (Φ : Bool → Prop) : Prop := ∀ H0 F H σ, Wd K b F H → EnvD K b H0 F H σ E →
  ∀ Q : Bool → Hp → Prop, (∀ c F' H', Step b F H F' H' → Wd K b F' H' → Φ c → Q c H') → t σ H Q
def wpa (t : TA) (E : Env') (Φ : List D → Prop) : Prop := ∀ H0 F H σ, Wd K b F H → EnvD K b H0 F H σ E →
  ∀ Q : List V → Hp → Prop, (∀ vs F' H' ds, Step b F H F' H' → Wd K b F' H' → DvA K b F' vs ds → Φ ds → Q vs H') → t σ H Q
/-- r of values that hold x, y -/
def rd2 (r : R2) (x y : D) (Φ : D → Prop) : Prop := ∀ F H v u, Wd K b F H → Dv K b F v x → Dv K b F u y →
  ∀ Q : VK, (∀ v F' H' z, Step b F H F' H' → Wd K b F' H' → Dv K b F' v z → Φ z → Q v H') → r v u H Q
def rd2l (r : R2) (x y : D) (Φ : List D → Prop) : Prop := ∀ F H v u, Wd K b F H → Dv K b F v x → Dv K b F u y →
  ∀ Q : VK, (∀ p vs F' H' ds, Step b F H F' H' → Wd K b F' H' → H p = none → F' p = none → H' p = some (.lst vs) → DvA K b F' vs ds → Φ ds → Q (.ref p) H') → r v u H Q
def rd1 (r : V → Hp → VK → Prop) (x : D) (Φ : D → Prop) : Prop := ∀ F H v, Wd K b F H → Dv K b F v x →
  ∀ Q : VK, (∀ v F' H' z, Step b F H F' H' → Wd K b F' H' → Dv K b F' v z → Φ z → Q v H') → r v H Q
def rdc (r : List V → Hp → VK → Prop) (xs : List D) (Φ : D → Prop) : Prop := ∀ F H vs, Wd K b F H → DvA K b F vs xs →
  ∀ Q : VK, (∀ v F' H' z, Step b F H F' H' → Wd K b F' H' → Dv K b F' v z → Φ z → Q v H') → r vs H Q
def rdcl (r : List V → Hp → VK → Prop) (xs : List D) (Φ : List D → Prop) : Prop := ∀ F H vs, Wd K b F H → DvA K b F vs xs →
  ∀ Q : VK, (∀ p us F' H' ds, Step b F H F' H' → Wd K b F' H' → H p = none → F' p = none → H' p = some (.lst us) → DvA K b F' us ds → Φ ds → Q (.ref p) H') → r vs H Q
/-- a target takes data -/
def wpg (vs : List Nat) (g : TG) (x : D) (E : Env') (Φ : Env' → Prop) : Prop := ∀ H0 F H σ v, Wd K b F H → EnvD K b H0 F H σ E → Dv K b F v x →
  ∀ Q : L2.St → Hp → Prop, (∀ σ' F' H' E', Step b F H F' H' → Wd K b F' H' → EnvD K b H0 F' H' σ' E' → σ'.length = σ.length → (∀ j : Nat, j ∉ vs → σ'[j]? = σ[j]?) → Φ E' → Q σ' H') → g v σ H Q
/-- what a walk yields -/
structure ItOk (F : Hp) (J : It) (ds : List D) : Prop where
  go : ∀ (i : Nat) F' H', Ex F F' → Wd K b F' H' → i < ds.length → J.go i H'
  stop : ∀ (i : Nat) F' H', Ex F F' → Wd K b F' H' → ds.length ≤ i → J.stop i H'
  yld : ∀ (i : Nat) F' H' x H2, Ex F F' → Wd K b F' H' → i < ds.length → J.yld i H' x H2 → ∃ (F2 : Hp) (d : D), Step b F' H' F2 H2 ∧ Wd K b F2 H2 ∧ ds[i]? = some d ∧ Dv K b F2 x d
def wpi (t : TI) (E : Env') (Φ : List D → Prop) : Prop := ∀ H0 F H σ, Wd K b F H → EnvD K b H0 F H σ E →
  ∀ R : It → Hp → Prop, (∀ J F' H' ds, Step b F H F' H' → Wd K b F' H' → ItOk K b F' J ds → Φ ds → R J H') → t σ H R
/-- what is wanted behind a statement -/
structure Po where
  nx : Env' → Prop
  rt : D → Prop
  rl : List D → Prop := fun _ => False
  bk : Env' → Prop := fun _ => False
  ct : Env' → Prop := fun _ => False
structure Ok (F0 H0 Fb : Hp) (P : Po) (Dn : Ends) : Prop where
  nx : ∀ σ F H E, Ex Fb F → Step b F0 H0 F H → Wd K b F H → EnvD K b H0 F H σ E → P.nx E → Dn.nx σ H
  rt : ∀ v F H x, Step b F0 H0 F H → Wd K b F H → Dv K b F v x → P.rt x → Dn.rt v H
  rl : ∀ p vs F H ds, Step b F0 H0 F H → Wd K b F H → H0 p = none → F p = none → (∀ c, b ≠ some (p, c)) → H p = some (.lst vs) → DvA K b F vs ds → P.rl ds → Dn.rt (.ref p) H
  bk : ∀ σ F H E, Ex Fb F → Step b F0 H0 F H → Wd K b F H → EnvD K b H0 F H σ E → P.bk E → Dn.bk σ H
  ct : ∀ σ F H E, Ex Fb F → Step b F0 H0 F H → Wd K b F H → EnvD K b H0 F H σ E → P.ct E → Dn.ct σ H
def wps (t : TS) (E : Env') (P : Po) : Prop := ∀ F0 H0 F H σ, Step b F0 H0 F H → Wd K b F H → EnvD K b H0 F H σ E →
  ∀ Dn : Ends, Ok K b F0 H0 F P Dn → t Dn σ H
end
theorem Ok.up {K : PySem.W.Frag} {b : Bg} {F0 H0 Fb Fc : Hp} {P : Po} {Dn : Ends} (k : Ok K b F0 H0 Fb P Dn) (x : Ex Fb Fc) : Ok K b F0 H0 Fc P Dn :=
  ⟨fun σ F H E y => k.nx σ F H E (x.trans y), k.rt, k.rl, fun σ F H E y => k.bk σ F H E (x.trans y), fun σ F H E y => k.ct σ F H E (x.trans y)⟩
end DL

namespace DL
open PySem PySem.Spec PyProof.Rows L2
section
variable {K : PySem.W.Frag} {b : Bg} {E : Env'} {ta tb tc te : TE} {t u : TT} {Φ : D → Prop} {Ψ : Bool → Prop}
/-! expressions -/
theorem wpe.mono {Φ' : D → Prop} (h : wpe K b te E Φ) (q : ∀ x, Φ x → Φ' x) : wpe K b te E Φ' := fun H0 F H σ w e Q k =>
  h H0 F H σ w e Q fun v F' H' x s w' d p => k v F' H' x s w' d (q x p)
theorem wpt.mono {Ψ' : Bool → Prop} (h : wpt K b t E Ψ) (q : ∀ x, Ψ x → Ψ' x) : wpt K b t E Ψ' := fun H0 F H σ w e Q k =>
  h H0 F H σ w e Q fun c F' H' s w' p => k c F' H' s w' (q c p)
theorem wpl.mono {Φ Φ' : List D → Prop} (h : wpl K b te E Φ) (q : ∀ x, Φ x → Φ' x) : wpl K b te E Φ' := fun H0 F H σ w e Q k =>
  h H0 F H σ w e Q fun p vs F' H' ds s w' n1 n2 n3 d z => k p vs F' H' ds s w' n1 n2 n3 d (q ds z)
theorem wpe_var {i : Nat} {x : D} (h : E[i]? = some (.d x)) (q : Φ x) : wpe K b (tVar i) E Φ := fun H0 F H σ w e Q k =>
  let ⟨v, h1, h2⟩ := e.dat i x h
  ⟨v, h1, k v F H x .refl w h2 q⟩
theorem wpe_int {i : Int} (q : Φ (.int i)) : wpe K b (tC (.int i)) E Φ := fun H0 F H σ w e Q k => k _ F H _ .refl w (.int i) q
theorem wpe_str {x : Str} (q : Φ (.str x)) : wpe K b (tC (.str x)) E Φ := fun H0 F H σ w e Q k => k _ F H _ .refl w (.str x) q
theorem wpe_bl {x : Bool} (q : Φ (.bl x)) : wpe K b (tC (.bl x)) E Φ := fun H0 F H σ w e Q k => k _ F H _ .refl w (.bl x) q
theorem wpe_non (q : Φ .non) : wpe K b (tC .non) E Φ := fun H0 F H σ w e Q k => k _ F H _ .refl w .non q
theorem wpe_op {r : R2} (h : wpe K b ta E fun x => wpe K b tb E fun y => rd2 K b r x y Φ) : wpe K b (tOp r ta tb) E Φ := fun H0 F H σ w e Q k =>
  h H0 F H σ w e _ fun v F1 H1 x s1 w1 d1 p1 => p1 H0 F1 H1 σ w1 (e.step s1) _ fun u F2 H2 y s2 w2 d2 p2 =>
    p2 F2 H2 v u w2 (d1.up s2.ex) d2 Q fun z F3 H3 zd s3 w3 d3 p3 => k z F3 H3 zd ((s1.trans s2 w1).trans s3 w2) w3 d3 p3
theorem wpl_op {r : R2} {Φ : List D → Prop} (h : wpe K b ta E fun x => wpe K b tb E fun y => rd2l K b r x y Φ) : wpl K b (tOp r ta tb) E Φ := fun H0 F H σ w e Q k =>
  h H0 F H σ w e _ fun v F1 H1 x s1 w1 d1 p1 => p1 H0 F1 H1 σ w1 (e.step s1) _ fun u F2 H2 y s2 w2 d2 p2 =>
    p2 F2 H2 v u w2 (d1.up s2.ex) d2 Q fun p vs F3 H3 ds s3 w3 n1 n2 n3 d3 p3 => k p vs F3 H3 ds ((s1.trans s2 w1).trans s3 w2) w3 ((s1.trans s2 w1).fresh w2 n1) n2 n3 d3 p3
theorem wpe_un {r : V → Hp → VK → Prop} (h : wpe K b ta E fun x => rd1 K b r x Φ) : wpe K b (tUn r ta) E Φ := fun H0 F H σ w e Q k =>
  h H0 F H σ w e _ fun v F1 H1 x s1 w1 d1 p1 => p1 F1 H1 v w1 d1 Q fun z F3 H3 zd s3 w3 d3 p3 => k z F3 H3 zd (s1.trans s3 w1) w3 d3 p3
/-- a new list becomes data at once -/
theorem wpe_l {te : TE} (h : wpl K b te E fun ds => Φ (.lst ds)) : wpe K b te E Φ := fun H0 F H σ w e Q k =>
  h H0 F H σ w e _ fun p vs F' H' ds s w' n1 n2 n3 d q => by
    have nb : ∀ c, b ≠ some (p, c) := w.nb n1
    have st : Step b F H (upd F' p (.lst vs)) H' := ⟨s.ex.trans (Ex.new n2), s.keep, fun a e1 e2 => by
      rw [upd_ne (show a ≠ p from fun z => e2 (by rw [z]; exact n1))]; exact s.out a e1 e2⟩
    exact k _ _ H' _ st (w'.frz n2 n3 nb) (.lst upd_same (d.up (Ex.new n2))) q
theorem wpa_nil {Φ : List D → Prop} (q : Φ []) : wpa K b tNil E Φ := fun H0 F H σ w e Q k => k _ F H _ .refl w .nil q
theorem wpa_cons {tr : TA} {Φ : List D → Prop} (h : wpe K b ta E fun x => wpa K b tr E fun xs => Φ (x :: xs)) : wpa K b (tCons ta tr) E Φ := fun H0 F H σ w e Q k =>
  h H0 F H σ w e _ fun v F1 H1 x s1 w1 d1 p1 => p1 H0 F1 H1 σ w1 (e.step s1) _ fun vs F2 H2 xs s2 w2 d2 p2 =>
    k _ F2 H2 _ (s1.trans s2 w1) w2 (.cons (d1.up s2.ex) d2) p2
theorem wpl_lst {tr : TA} {Φ : List D → Prop} (h : wpa K b tr E fun xs => xs.length ≤ 100000 ∧ Φ xs) : wpl K b (tLst tr) E Φ := fun H0 F H σ w e Q k =>
  h H0 F H σ w e _ fun vs F1 H1 xs s1 w1 d1 p1 => ⟨by rw [d1.len]; exact Nat.le_trans p1.1 (by decide), fun p hp => by
    obtain ⟨w2, s2⟩ := w1.newO (o := .lst vs) hp
    exact k p vs F1 _ xs (s1.trans s2 w1) w2 (s1.fresh w1 hp) (w1.outN hp) upd_same d1 p1.2⟩
theorem wpe_tup {tr : TA} (h : wpa K b tr E fun xs => xs.length ≤ 100000 ∧ Φ (.tup xs)) : wpe K b (tTup tr) E Φ := fun H0 F H σ w e Q k =>
  h H0 F H σ w e _ fun vs F1 H1 xs s1 w1 d1 p1 => ⟨by rw [d1.len]; exact Nat.le_trans p1.1 (by decide), fun p hp => by
    obtain ⟨w2, s2⟩ := w1.newD (o := .tup vs) hp
    exact k _ _ _ _ (s1.trans s2 w1) w2 (.tup (.inl (.inl upd_same)) (d1.up s2.ex)) p1.2⟩
/-! tests -/
theorem wpt_test (h : wpe K b te E fun x => ∃ c, x = .bl c ∧ Ψ c) : wpt K b (tTest te) E Ψ := fun H0 F H σ w e Q k =>
  h H0 F H σ w e _ fun v F1 H1 x s1 w1 d1 p1 => by
    obtain ⟨c, rfl, q⟩ := p1
    cases d1
    exact ⟨c, rfl, k c F1 H1 s1 w1 q⟩
theorem wpt_B (h : wpe K b te E fun x => ∃ c, x = .bl c ∧ Ψ c) : wpt K b (tB te) E Ψ := fun H0 F H σ w e Q k =>
  h H0 F H σ w e _ fun v F1 H1 x s1 w1 d1 p1 => by
    obtain ⟨c, rfl, q⟩ := p1
    cases d1
    exact ⟨c, rfl, k c F1 H1 s1 w1 q⟩
theorem wpt_yes (q : Ψ true) : wpt K b tYes E Ψ := fun H0 F H σ w e Q k => k true F H .refl w q
theorem wpt_not (h : wpt K b t E fun c => Ψ (!c)) : wpt K b (tNot t) E Ψ := fun H0 F H σ w e Q k =>
  h H0 F H σ w e _ fun c F1 H1 s1 w1 p1 => k _ F1 H1 s1 w1 p1
theorem wpt_and (h : wpt K b t E fun c => if c = true then wpt K b u E Ψ else Ψ false) : wpt K b (tAnd t u) E Ψ := fun H0 F H σ w e Q k =>
  h H0 F H σ w e _ fun c F1 H1 s1 w1 p1 => by
    cases c with
    | true => exact p1 H0 F1 H1 σ w1 (e.step s1) Q fun c F2 H2 s2 w2 p2 => k c F2 H2 (s1.trans s2 w1) w2 p2
    | false => exact k false F1 H1 s1 w1 p1
theorem wpt_or (h : wpt K b t E fun c => if c = true then Ψ true else wpt K b u E Ψ) : wpt K b (tOr t u) E Ψ := fun H0 F H σ w e Q k =>
  h H0 F H σ w e _ fun c F1 H1 s1 w1 p1 => by
    cases c with
    | false => exact p1 H0 F1 H1 σ w1 (e.step s1) Q fun c F2 H2 s2 w2 p2 => k c F2 H2 (s1.trans s2 w1) w2 p2
    | true => exact k true F1 H1 s1 w1 p1
theorem wpe_and (h : wpe K b ta E fun x => ∃ c, x = .bl c ∧ if c = true then wpe K b tb E Φ else Φ (.bl false)) : wpe K b (tAndV ta tb) E Φ := fun H0 F H σ w e Q k =>
  h H0 F H σ w e _ fun v F1 H1 x s1 w1 d1 p1 => by
    obtain ⟨c, rfl, q⟩ := p1
    cases d1
    refine ⟨c, rfl, ?_⟩
    cases c with
    | true => exact q H0 F1 H1 σ w1 (e.step s1) Q fun c F2 H2 x s2 w2 d2 p2 => k c F2 H2 x (s1.trans s2 w1) w2 d2 p2
    | false => exact k _ F1 H1 _ s1 w1 (.bl false) q
theorem wpe_or (h : wpe K b ta E fun x => ∃ c, x = .bl c ∧ if c = true then Φ (.bl true) else wpe K b tb E Φ) : wpe K b (tOrV ta tb) E Φ := fun H0 F H σ w e Q k =>
  h H0 F H σ w e _ fun v F1 H1 x s1 w1 d1 p1 => by
    obtain ⟨c, rfl, q⟩ := p1
    cases d1
    refine ⟨c, rfl, ?_⟩
    cases c with
    | false => exact q H0 F1 H1 σ w1 (e.step s1) Q fun c F2 H2 x s2 w2 d2 p2 => k c F2 H2 x (s1.trans s2 w1) w2 d2 p2
    | true => exact k _ F1 H1 _ s1 w1 (.bl true) q
theorem wpe_not (h : wpe K b ta E fun x => ∃ c, x = .bl c ∧ Φ (.bl (!c))) : wpe K b (tNotV ta) E Φ := fun H0 F H σ w e Q k =>
  h H0 F H σ w e _ fun v F1 H1 x s1 w1 d1 p1 => by
    obtain ⟨c, rfl, q⟩ := p1
    cases d1
    exact ⟨c, rfl, k _ F1 H1 _ s1 w1 (.bl _) q⟩
theorem wpe_if (h : wpt K b t E fun c => if c = true then wpe K b ta E Φ else wpe K b tb E Φ) : wpe K b (tIf t ta tb) E Φ := fun H0 F H σ w e Q k =>
  h H0 F H σ w e _ fun c F1 H1 s1 w1 p1 => by
    cases c with
    | true => exact p1 H0 F1 H1 σ w1 (e.step s1) Q fun c F2 H2 x s2 w2 d2 p2 => k c F2 H2 x (s1.trans s2 w1) w2 d2 p2
    | false => exact p1 H0 F1 H1 σ w1 (e.step s1) Q fun c F2 H2 x s2 w2 d2 p2 => k c F2 H2 x (s1.trans s2 w1) w2 d2 p2
theorem wpe_chain {r r' : R2} (h : wpe K b ta E fun x => wpe K b tb E fun y => rd2 K b r x y fun z => ∃ c, z = .bl c ∧
    if c = true then wpe K b tc E fun w' => rd2 K b r' y w' Φ else Φ (.bl false)) : wpe K b (tChain r r' ta tb tc) E Φ := fun H0 F H σ w e Q k =>
  h H0 F H σ w e _ fun v F1 H1 x s1 w1 d1 p1 => p1 H0 F1 H1 σ w1 (e.step s1) _ fun u F2 H2 y s2 w2 d2 p2 =>
    p2 F2 H2 v u w2 (d1.up s2.ex) d2 _ fun z F3 H3 zd s3 w3 d3 p3 => by
      obtain ⟨c, rfl, q⟩ := p3
      cases d3
      have s13 := (s1.trans s2 w1).trans s3 w2
      refine ⟨c, rfl, ?_⟩
      cases c with
      | false => exact k _ F3 H3 _ s13 w3 (.bl false) q
      | true =>
        exact q H0 F3 H3 σ w3 (e.step s13) _ fun y2 F4 H4 yd s4 w4 d4 p4 =>
          p4 F4 H4 u y2 w4 (d2.up (s3.ex.trans s4.ex)) d4 Q fun z5 F5 H5 zd5 s5 w5 d5 p5 => k z5 F5 H5 zd5 ((s13.trans s4 w3).trans s5 w4) w5 d5 p5
/-! calls of built-ins, by values -/
theorem wpe_cb {r : List V → Hp → VK → Prop} {tr : TA} (h : wpa K b tr E fun xs => rdc K b r xs Φ) : wpe K b (tCB r tr) E Φ := fun H0 F H σ w e Q k =>
  h H0 F H σ w e _ fun vs F1 H1 xs s1 w1 d1 p1 => p1 F1 H1 vs w1 d1 Q fun z F3 H3 zd s3 w3 d3 p3 => k z F3 H3 zd (s1.trans s3 w1) w3 d3 p3
theorem wpl_cb {r : List V → Hp → VK → Prop} {tr : TA} {Φ : List D → Prop} (h : wpa K b tr E fun xs => rdcl K b r xs Φ) : wpl K b (tCB r tr) E Φ := fun H0 F H σ w e Q k =>
  h H0 F H σ w e _ fun vs F1 H1 xs s1 w1 d1 p1 => p1 F1 H1 vs w1 d1 Q fun p us F3 H3 ds s3 w3 n1 n2 n3 d3 p3 => k p us F3 H3 ds (s1.trans s3 w1) w3 (s1.fresh w1 n1) n2 n3 d3 p3
/-! a def's promise -/
/-- data in, data out -/
def Sd (K : PySem.W.Frag) (n : Nat) (pre : Bg → List D → Prop) (post : List D → D → Prop) : Sp := fun vs H Q _ => ∃ b F ds, vs.length = n ∧ Wd K b F H ∧ DvA K b F vs ds ∧ pre b ds ∧
  ∀ v F' H' x, Step b F H F' H' → Wd K b F' H' → Dv K b F' v x → post ds x → Q v H'
/-- data in, a new list out -/
def Sl (K : PySem.W.Frag) (n : Nat) (pre : Bg → List D → Prop) (post : List D → List D → Prop) : Sp := fun vs H Q _ => ∃ b F ds, vs.length = n ∧ Wd K b F H ∧ DvA K b F vs ds ∧ pre b ds ∧
  ∀ p us F' H' es, Step b F H F' H' → Wd K b F' H' → H p = none → F' p = none → H' p = some (.lst us) → DvA K b F' us es → post ds es → Q (.ref p) H'
theorem wpe_call {n : Nat} {pre : Bg → List D → Prop} {post : List D → D → Prop} {EE : XK} {tr : TA} (h : wpa K b tr E fun xs => xs.length = n ∧ pre b xs ∧ ∀ x, post xs x → Φ x) : wpe K b (tCall (Sd K n pre post) [] EE tr) E Φ := fun H0 F H σ w e Q k =>
  h H0 F H σ w e _ fun vs F1 H1 xs s1 w1 d1 p1 => by
    rw [List.append_nil]
    exact ⟨b, F1, xs, d1.len.trans p1.1, w1, d1, p1.2.1, fun v F' H' x s w' d q => k v F' H' x (s1.trans s w1) w' d (p1.2.2 x q)⟩
theorem wpl_call {n : Nat} {pre : Bg → List D → Prop} {post : List D → List D → Prop} {EE : XK} {tr : TA} {Φ : List D → Prop} (h : wpa K b tr E fun xs => xs.length = n ∧ pre b xs ∧ ∀ x, post xs x → Φ x) :
    wpl K b (tCall (Sl K n pre post) [] EE tr) E Φ := fun H0 F H σ w e Q k =>
  h H0 F H σ w e _ fun vs F1 H1 xs s1 w1 d1 p1 => by
    rw [List.append_nil]
    exact ⟨b, F1, xs, d1.len.trans p1.1, w1, d1, p1.2.1, fun p us F' H' es s w' n1 n2 n3 d q => k p us F' H' es (s1.trans s w1) w' (s1.fresh w1 n1) n2 n3 d (p1.2.2 es q)⟩
end
end DL

namespace DL
open PySem PySem.Spec PyProof.Rows L2
section
variable {K : PySem.W.Frag} {b : Bg} {E : Env'} {ta tb te : TE} {c : TT} {t u : TS} {P : Po} {g : TG} {vs : List Nat}
/-! statements -/
theorem wps_seq (h : wps K b t E { P with nx := fun E' => wps K b u E' P }) : wps K b (tSeq t u) E P := fun F0 H0 F H σ s w e Dn k =>
  h F0 H0 F H σ s w e { Dn with nx := u Dn } ⟨fun σ F H E y s w d q => q F0 H0 F H σ s w d Dn (k.up y), k.rt, k.rl, k.bk, k.ct⟩
theorem wps_next (h : P.nx E) : wps K b tNext E P := fun F0 H0 F H σ s w e Dn k => k.nx σ F H E (Ex.refl _) s w e h
theorem wps_brk (h : P.bk E) : wps K b tBreak E P := fun F0 H0 F H σ s w e Dn k => k.bk σ F H E (Ex.refl _) s w e h
theorem wps_cont (h : P.ct E) : wps K b tCont E P := fun F0 H0 F H σ s w e Dn k => k.ct σ F H E (Ex.refl _) s w e h
theorem wps_ret (h : wpe K b te E P.rt) : wps K b (tRet te) E P := fun F0 H0 F H σ s w e Dn k =>
  h H0 F H σ w e Dn.rt fun v F' H' x s' w' d q => k.rt v F' H' x (s.trans s' w) w' d q
theorem wps_retl (h : wpl K b te E P.rl) : wps K b (tRet te) E P := fun F0 H0 F H σ s w e Dn k =>
  h H0 F H σ w e Dn.rt fun p vs F' H' ds s' w' n1 n2 n3 d q => k.rl p vs F' H' ds (s.trans s' w) w' (s.fresh w n1) n2 (w.nb n1) n3 d q
/-- an own list is returned -/
theorem wps_reto {i : Nat} {ds : List D} (hi : E[i]? = some (.o ds)) (h : P.rl ds) : wps K b (tRet (tVar i)) E P := fun F0 H0 F H σ s w e Dn k => by
  obtain ⟨p, us, h1, h2, h3, h4, h5, h6⟩ := e.own i ds hi
  exact ⟨_, h1, k.rl p us F H ds s w h2 h3 h4 h5 h6 h⟩
theorem wps_asg {i : Nat} (h : wpe K b te E fun x => P.nx (E.set i (.d x))) : wps K b (tAsg te (gName i)) E P := fun F0 H0 F H σ s w e Dn k =>
  h H0 F H σ w e _ fun v F' H' x s' w' d q => k.nx _ F' H' _ s'.ex (s.trans s' w) w' ((e.step s').setD d) q
/-- a new list is taken as an own one -/
theorem wps_asgl {i : Nat} (h : wpl K b te E fun ds => P.nx (E.set i (.o ds))) : wps K b (tAsg te (gName i)) E P := fun F0 H0 F H σ s w e Dn k =>
  h H0 F H σ w e _ fun p vs F' H' ds s' w' n1 n2 n3 d q => k.nx _ F' H' _ s'.ex (s.trans s' w) w' ((e.step s').setO (s.fresh w n1) n2 (w.nb n1) n3 d fun j es _ hj z => by
    obtain ⟨p', us, h1, _, _, _, h5, _⟩ := e.own j es hj
    rw [h1] at z
    cases z
    rw [n1] at h5; cases h5) q
theorem wps_asgt (vs : List Nat) (h : wpe K b te E fun x => wpg K b vs g x E P.nx) : wps K b (tAsg te g) E P := fun F0 H0 F H σ s w e Dn k =>
  h H0 F H σ w e _ fun v F' H' x s' w' d q => q H0 F' H' σ v w' (e.step s') d Dn.nx fun σ2 F2 H2 E2 s2 w2 e2 _ _ q2 => k.nx σ2 F2 H2 E2 (s'.ex.trans s2.ex) ((s.trans s' w).trans s2 w') w2 e2 q2
theorem wps_par {i j : Nat} {tr : TA} (h : wpa K b tr E fun xs => ∃ x y, xs = [x, y] ∧ P.nx ((E.set i (.d x)).set j (.d y))) : wps K b (tPar i j tr) E P := fun F0 H0 F H σ s w e Dn k =>
  h H0 F H σ w e _ fun vs F' H' xs s' w' d q => by
    obtain ⟨x, y, rfl, q⟩ := q
    cases d with
    | cons d1 d => cases d with
      | cons d2 d =>
        cases d
        exact ⟨_, _, rfl, k.nx _ F' H' _ s'.ex (s.trans s' w) w' (((e.step s').setD d1).setD d2) q⟩
theorem wps_if (h : wpt K b c E fun r => if r = true then wps K b t E P else wps K b u E P) : wps K b (tIfS c t u) E P := fun F0 H0 F H σ s w e Dn k =>
  h H0 F H σ w e _ fun r F1 H1 s1 w1 q => by
    cases r with
    | true => exact q F0 H0 F1 H1 σ (s.trans s1 w) w1 (e.step s1) Dn (k.up s1.ex)
    | false => exact q F0 H0 F1 H1 σ (s.trans s1 w) w1 (e.step s1) Dn (k.up s1.ex)
theorem wps_drop (h : wpe K b te E fun _ => P.nx E) : wps K b (tDrop te) E P := fun F0 H0 F H σ s w e Dn k =>
  h H0 F H σ w e _ fun v F' H' x s' w' d q => k.nx _ F' H' _ s'.ex (s.trans s' w) w' (e.step s') q
/-- x op= e over ints -/
theorem wps_augI {i : Nat} {f : Int → Int → Int} {n : Int} (hi : E[i]? = some (.d (.int n))) (h : wpe K b te E fun y => ∃ m, y = .int m ∧ P.nx (E.set i (.d (.int (f n m))))) : wps K b (tAug i te (ipI f)) E P := fun F0 H0 F H σ s w e Dn k => by
  obtain ⟨v, h1, h2⟩ := e.dat i _ hi
  cases h2
  refine ⟨_, h1, h H0 F H σ w e _ fun v F' H' x s' w' d q => ?_⟩
  obtain ⟨m, rfl, q⟩ := q
  cases d
  exact ⟨n, m, rfl, rfl, k.nx _ F' H' _ s'.ex (s.trans s' w) w' ((e.step s').setD (.int _)) q⟩
/-! ghost steps -/
theorem wps_frz (i : Nat) {ds : List D} (hi : E[i]? = some (.o ds)) (h : wps K b t (E.set i (.d (.lst ds))) P) : wps K b t E P := fun F0 H0 F H σ s w e Dn k => by
  obtain ⟨p, us, h1, h2, h3, h4, h5, h6⟩ := e.own i ds hi
  refine h F0 H0 (upd F p (.lst us)) H σ ⟨s.ex.trans (Ex.new h3), s.keep, fun a e1 e2 => ?_⟩ (w.frz h3 h5 h4) (e.frz hi h1 h3 h6) Dn (k.up (Ex.new h3))
  rw [upd_ne (show a ≠ p from fun z => e2 (by rw [z]; exact h2))]
  exact s.out a e1 e2
theorem wps_weak {E' : Env'} (hl : E'.length = E.length) (w : ∀ (i : Nat) (n : En), E'[i]? = some n → n = .u ∨ E[i]? = some n) (h : wps K b t E' P) : wps K b t E P := fun F0 H0 F H σ s wd e Dn k =>
  h F0 H0 F H σ s wd (e.weak hl w) Dn k
theorem wps_mono {P' : Po} (h : wps K b t E P) (n : ∀ E, P.nx E → P'.nx E) (r : ∀ x, P.rt x → P'.rt x) (l : ∀ x, P.rl x → P'.rl x) (bk : ∀ E, P.bk E → P'.bk E) (ct : ∀ E, P.ct E → P'.ct E) : wps K b t E P' := fun F0 H0 F H σ s wd e Dn k =>
  h F0 H0 F H σ s wd e Dn ⟨fun σ F H E y s w e q => k.nx σ F H E y s w e (n E q), fun v F H x s w d q => k.rt v F H x s w d (r x q), fun p vs F H ds s w n1 n2 n3 n4 d q => k.rl p vs F H ds s w n1 n2 n3 n4 d (l ds q),
    fun σ F H E y s w e q => k.bk σ F H E y s w e (bk E q), fun σ F H E y s w e q => k.ct σ F H E y s w e (ct E q)⟩
/-! targets -/
theorem wpg_name {i : Nat} {x : D} {Φ : Env' → Prop} (hi : i ∈ vs) (h : Φ (E.set i (.d x))) : wpg K b vs (gName i) x E Φ := fun H0 F H σ v w e d Q k =>
  k _ F H _ .refl w (e.setD d) (List.length_set ..) (fun j hj => List.getElem?_set_ne (fun z => hj (by rw [← z]; exact hi))) h
/-- several targets -/
def wpgs (K : PySem.W.Frag) (b : Bg) (vs : List Nat) (gs : TGs) (xs : List D) (E : Env') (Φ : Env' → Prop) : Prop := ∀ H0 F H σ us, Wd K b F H → EnvD K b H0 F H σ E → DvA K b F us xs →
  ∀ Q : L2.St → Hp → Prop, (∀ σ' F' H' E', Step b F H F' H' → Wd K b F' H' → EnvD K b H0 F' H' σ' E' → σ'.length = σ.length → (∀ j : Nat, j ∉ vs → σ'[j]? = σ[j]?) → Φ E' → Q σ' H') → gs us σ H Q
theorem wpgs_nil {Φ : Env' → Prop} (h : Φ E) : wpgs K b vs gNil [] E Φ := fun H0 F H σ us w e d Q k => by
  cases d
  exact ⟨rfl, k _ F H _ .refl w e rfl (fun _ _ => rfl) h⟩
theorem wpgs_cons {g : TG} {gs : TGs} {x : D} {xs : List D} {Φ : Env' → Prop} (h : wpg K b vs g x E fun E' => wpgs K b vs gs xs E' Φ) : wpgs K b vs (gCons g gs) (x :: xs) E Φ := fun H0 F H σ us w e d Q k => by
  cases d with
  | cons d1 d2 =>
    refine ⟨_, _, rfl, h H0 F H σ _ w e d1 _ fun σ1 F1 H1 E1 s1 w1 e1 l1 j1 q => ?_⟩
    exact q H0 F1 H1 σ1 _ w1 e1 (d2.up s1.ex) Q fun σ2 F2 H2 E2 s2 w2 e2 l2 j2 q2 => k σ2 F2 H2 E2 (s1.trans s2 w1) w2 e2 (l2.trans l1) (fun j hj => (j2 j hj).trans (j1 j hj)) q2
theorem wpg_tup {n : Nat} {gs : TGs} {xs : List D} {Φ : Env' → Prop} (hn : xs.length = n) (h : wpgs K b vs gs xs E Φ) : wpg K b vs (gTup K n gs) (.tup xs) E Φ := fun H0 F H σ v w e d Q k => by
  cases d with
  | tup s a => exact ⟨_, _, rfl, exT w.ex s, a.len.trans hn, h H0 F H σ _ w e a Q k⟩
/-! loops -/
theorem wps_for {wi : TI} (vs : List Nat) (h : wpi K b wi E fun ds => ∃ I : Nat → Env' → Prop, I 0 E ∧ (∀ (i : Nat) d E', ds[i]? = some d → I i E' → wpg K b vs g d E' fun E2 => wps K b t E2 { P with nx := I (i + 1), ct := I (i + 1), bk := P.nx }) ∧ ∀ E', I ds.length E' → P.nx E') :
    wps K b (tFor wi g t) E P := fun F0 H0 F H σ s w e Dn k =>
  h H0 F H σ w e _ fun J F1 H1 ds s1 w1 it q => by
    obtain ⟨I, i0, turn, fin⟩ := q
    refine ⟨fun i m σ H => m = ds.length - i ∧ i ≤ ds.length ∧ ∃ F E, Step b F0 H0 F H ∧ Ex F1 F ∧ Wd K b F H ∧ EnvD K b H0 F H σ E ∧ I i E,
      ⟨ds.length, by omega, Nat.zero_le _, F1, E, s.trans s1 w, Ex.refl _, w1, e.step s1, i0⟩, ?_⟩
    rintro i m σ2 H2 ⟨rfl, hi, F2, E2, s2, x2, w2, e2, q2⟩
    by_cases hlt : i < ds.length
    · refine .inr ⟨it.go i F2 H2 x2 w2 hlt, fun σ' H' => ∃ F' E', Step b F0 H0 F' H' ∧ Ex F1 F' ∧ Wd K b F' H' ∧ EnvD K b H0 F' H' σ' E' ∧ I (i + 1) E', fun σ' H' n => ⟨ds.length - (i + 1), by omega, rfl, hlt, n⟩, fun x H3 hy => ?_⟩
      obtain ⟨F3, d, s3, w3, hd, hv⟩ := it.yld i F2 H2 x H3 x2 w2 hlt hy
      refine turn i d E2 hd q2 H0 F3 H3 σ2 x w3 (e2.step s3) hv _ fun σ4 F4 H4 E4 s4 w4 e4 _ _ q4 => ?_
      have x4 : Ex F1 F4 := (x2.trans s3.ex).trans s4.ex
      exact q4 F0 H0 F4 H4 σ4 ((s2.trans s3 w2).trans s4 w3) w4 e4 _ ⟨fun σ F H E y s w e q => ⟨F, E, s, x4.trans y, w, e, q⟩, k.rt, k.rl,
        fun σ F H E y s w e q => k.nx σ F H E (x4.trans y |> fun z => s1.ex.trans z) s w e q, fun σ F H E y s w e q => ⟨F, E, s, x4.trans y, w, e, q⟩⟩
    · have hi' : i = ds.length := by omega
      subst hi'
      exact .inl ⟨it.stop _ F2 H2 x2 w2 (Nat.le_refl _), k.nx σ2 F2 H2 E2 (s1.ex.trans x2) s2 w2 e2 (fin E2 q2)⟩
end
end DL

namespace DL
open PySem PySem.Spec PyProof.Rows L2
section
variable {K : PySem.W.Frag} {b : Bg} {E : Env'} {ta tb te : TE} {c : TT} {t u : TS} {P : Po} {g : TG} {vs : List Nat}
/-! what is walked -/
theorem itl {F : Hp} {a : Addr} {xs : List V} {ds : List D} (h : F a = some (.lst xs)) (d : DvA K b F xs ds) : ItOk K b F (Itl K a) ds := by
  have hl := d.len
  refine ⟨fun i F' H' x w hi => ?_, fun i F' H' x w hi => ?_, fun i F' H' v H2 x w hi y => ?_⟩
  · exact ⟨xs, xs[i], SqL.of (w.ex a _ (x a _ h)), by simp [hl, hi]⟩
  · exact ⟨xs, SqL.of (w.ex a _ (x a _ h)), by rw [hl]; exact hi⟩
  · obtain ⟨rfl, q⟩ := y
    have e := q xs (SqL.of (w.ex a _ (x a _ h)))
    obtain ⟨z, e2, dz⟩ := d.getV e
    exact ⟨F', z, .refl, w, e2, dz.up x⟩
theorem wpi_list {Φ : List D → Prop} (h : wpe K b te E fun x => ∃ ds, x = .lst ds ∧ Φ ds) : wpi K b (iList K te) E Φ := fun H0 F H σ w e R k =>
  h H0 F H σ w e _ fun v F' H' x s' w' d q => by
    obtain ⟨ds, rfl, q⟩ := q
    cases d with
    | lst s a => exact ⟨_, rfl, ⟨_, SqL.of (w'.ex _ _ s)⟩, k _ F' H' ds s' w' (itl s a) q⟩
/-- an own list is walked; it stays as it is meanwhile -/
theorem wpi_listl {Φ : List D → Prop} (h : wpl K b te E Φ) : wpi K b (iList K te) E Φ := wpi_list (wpe_l (h.mono fun ds q => ⟨ds, rfl, q⟩))
theorem itt {F : Hp} {a : Addr} {xs : List V} {ds : List D} (h : SqT K F a xs) (d : DvA K b F xs ds) : ItOk K b F (Itt K a) ds := by
  have hl := d.len
  refine ⟨fun i F' H' x w hi => ?_, fun i F' H' x w hi => ?_, fun i F' H' v H2 x w hi y => ?_⟩
  · exact ⟨xs, xs[i], exT (x.trans w.ex) h, by simp [hl, hi]⟩
  · exact ⟨xs, exT (x.trans w.ex) h, by rw [hl]; exact hi⟩
  · obtain ⟨rfl, q⟩ := y
    have e := q xs (exT (x.trans w.ex) h)
    obtain ⟨z, e2, dz⟩ := d.getV e
    exact ⟨F', z, .refl, w, e2, dz.up x⟩
theorem wpi_tup {Φ : List D → Prop} (h : wpe K b te E fun x => ∃ ds, x = .tup ds ∧ Φ ds) : wpi K b (iTup K te) E Φ := fun H0 F H σ w e R k =>
  h H0 F H σ w e _ fun v F' H' x s' w' d q => by
    obtain ⟨ds, rfl, q⟩ := q
    cases d with
    | tup s a => exact ⟨_, rfl, ⟨_, exT w'.ex s⟩, k _ F' H' ds s' w' (itt s a) q⟩
def rangeD (lo : Int) (n : Nat) : List D := (List.range n).map fun i => D.int (lo + (i : Nat))
theorem rangeD_len (lo : Int) (n : Nat) : (rangeD lo n).length = n := by unfold rangeD; rw [List.length_map, List.length_range]
theorem rangeD_get {lo : Int} {n i : Nat} (h : i < n) : (rangeD lo n)[i]? = some (.int (lo + (i : Nat))) := by unfold rangeD; rw [List.getElem?_map, List.getElem?_range h]; rfl
theorem rangeD_at {lo : Int} {n i : Nat} {d : D} (h : (rangeD lo n)[i]? = some d) : i < n ∧ d = .int (lo + (i : Nat)) := by
  have hi : i < n := by
    have := (List.getElem?_eq_some_iff.mp h).1
    rw [rangeD_len] at this; exact this
  rw [rangeD_get hi] at h
  exact ⟨hi, (Option.some.inj h).symm⟩
theorem itr {F : Hp} (lo : Int) (n : Nat) : ItOk K b F (Itr lo n) (rangeD lo n) :=
  ⟨fun i F' H' x w hi => by rw [rangeD_len] at hi; exact hi, fun i F' H' x w hi => by rw [rangeD_len] at hi; exact hi, fun i F' H' v H2 x w hi y => by
    obtain ⟨rfl, rfl⟩ := y
    rw [rangeD_len] at hi
    exact ⟨F', _, .refl, w, rangeD_get hi, .int _⟩⟩
theorem wpi_rng1 {tr : TA} {Φ : List D → Prop} (h : wpa K b tr E fun xs => ∃ n : Int, xs = [.int n] ∧ -100000 ≤ n ∧ n ≤ 100000 ∧ Φ (rangeD 0 n.toNat)) : wpi K b (iRng1 tr) E Φ := fun H0 F H σ w e R k =>
  h H0 F H σ w e _ fun us F' H' xs s' w' d q => by
    obtain ⟨n, rfl, h1, h2, q⟩ := q
    cases d with
    | cons d1 d => cases d; cases d1; exact ⟨n, rfl, by omega, by omega, k _ F' H' _ s' w' (itr 0 _) q⟩
theorem wpi_rng2 {tr : TA} {Φ : List D → Prop} (h : wpa K b tr E fun xs => ∃ m n : Int, xs = [.int m, .int n] ∧ -100000 ≤ m ∧ m ≤ 100000 ∧ -100000 ≤ n ∧ n ≤ 100000 ∧ Φ (rangeD m (n - m).toNat)) : wpi K b (iRng2 tr) E Φ := fun H0 F H σ w e R k =>
  h H0 F H σ w e _ fun us F' H' xs s' w' d q => by
    obtain ⟨m, n, rfl, h1, h2, h3, h4, q⟩ := q
    cases d with
    | cons d1 d => cases d with
      | cons d2 d => cases d; cases d1; cases d2; exact ⟨m, n, rfl, ⟨by omega, by omega, by omega, by omega⟩, k _ F' H' _ s' w' (itr m _) q⟩
/-- enumerate -/
def enumD (ds : List D) : List D := ds.zipIdx.map fun p => D.tup [.int (p.2 : Nat), p.1]
theorem enumD_len (ds : List D) : (enumD ds).length = ds.length := by unfold enumD; rw [List.length_map, List.length_zipIdx]
theorem enumD_get {ds : List D} {i : Nat} : (enumD ds)[i]? = (ds[i]?).map fun d => D.tup [.int (i : Nat), d] := by
  unfold enumD
  rw [List.getElem?_map, List.getElem?_zipIdx]
  cases ds[i]? with
  | none => rfl
  | some d => simp
theorem wpi_enum {tr : TA} {Φ : List D → Prop} (h : wpa K b tr E fun xs => ∃ ds, xs = [.lst ds] ∧ Φ (enumD ds)) : wpi K b (iEnum K tr) E Φ := fun H0 F H σ w e R k =>
  h H0 F H σ w e _ fun us F' H' xs s' w' d q => by
    obtain ⟨ds, rfl, q⟩ := q
    cases d with
    | cons d1 d =>
      cases d
      cases d1 with
      | lst s a =>
        rename_i ad zs
        refine ⟨ad, zs, rfl, SqL.of (w'.ex _ _ s), k _ F' H' _ s' w' ⟨fun i F2 H2 x w2 hi => ?_, fun i F2 H2 x w2 hi => ?_, fun i F2 H2 v H3 x w2 hi y => ?_⟩ q⟩
        · rw [enumD_len] at hi
          exact ⟨zs, zs[i]'(by rw [a.len]; exact hi), SqL.of (w2.ex _ _ (x _ _ s)), by simp [a.len, hi]⟩
        · rw [enumD_len] at hi
          exact ⟨zs, SqL.of (w2.ex _ _ (x _ _ s)), by rw [a.len]; exact hi⟩
        · obtain ⟨T, z, rfl, nT, rfl, f⟩ := y
          have e := f zs (SqL.of (w2.ex _ _ (x _ _ s)))
          obtain ⟨dz, e2, hz⟩ := a.getV e
          obtain ⟨w3, s3⟩ := w2.newD (o := .tup [.int (i : Nat), z]) nT
          exact ⟨_, _, s3, w3, by rw [enumD_get, e2]; rfl, .tup (.inl (.inl upd_same)) (.cons (.int _) (.one (hz.up (x.trans s3.ex))))⟩
/-- zip of two lists -/
def zipD (ds es : List D) : List D := (ds.zip es).map fun p => D.tup [p.1, p.2]
theorem zipD_len (ds es : List D) : (zipD ds es).length = min ds.length es.length := by unfold zipD; rw [List.length_map, List.length_zip]
theorem zipD_get {ds es : List D} {i : Nat} {x y : D} (h1 : ds[i]? = some x) (h2 : es[i]? = some y) : (zipD ds es)[i]? = some (.tup [x, y]) := by
  unfold zipD
  rw [List.getElem?_map, (List.getElem?_zip_eq_some (z := (x, y))).mpr ⟨h1, h2⟩]
  rfl
theorem wpi_zip {tr : TA} {Φ : List D → Prop} (h : wpa K b tr E fun xs => ∃ ds es, xs = [.lst ds, .lst es] ∧ Φ (zipD ds es)) : wpi K b (iZip K tr) E Φ := fun H0 F H σ w e R k =>
  h H0 F H σ w e _ fun us F' H' xs s' w' d q => by
    obtain ⟨ds, es, rfl, q⟩ := q
    cases d with
    | cons d1 d =>
      cases d with
      | cons d2 d =>
        cases d
        cases d1 with
        | lst s a =>
          cases d2 with
          | lst s2 a2 =>
            rename_i ad zs ad2 zs2
            refine ⟨ad, ad2, zs, zs2, rfl, SqL.of (w'.ex _ _ s), SqL.of (w'.ex _ _ s2), k _ F' H' _ s' w' ⟨fun i F2 H2 x w2 hi => ?_, fun i F2 H2 x w2 hi => ?_, fun i F2 H2 v H3 x w2 hi y => ?_⟩ q⟩
            · rw [zipD_len] at hi
              exact ⟨zs, zs2, zs[i]'(by rw [a.len]; omega), zs2[i]'(by rw [a2.len]; omega), SqL.of (w2.ex _ _ (x _ _ s)), SqL.of (w2.ex _ _ (x _ _ s2)), by simp, by simp⟩
            · rw [zipD_len] at hi
              exact ⟨zs, zs2, SqL.of (w2.ex _ _ (x _ _ s)), SqL.of (w2.ex _ _ (x _ _ s2)), by rw [a.len, a2.len]; omega⟩
            · obtain ⟨T, z, z2, rfl, nT, rfl, f, f2⟩ := y
              obtain ⟨dz, e2, hz⟩ := a.getV (f zs (SqL.of (w2.ex _ _ (x _ _ s))))
              obtain ⟨dz2, e3, hz2⟩ := a2.getV (f2 zs2 (SqL.of (w2.ex _ _ (x _ _ s2))))
              obtain ⟨w3, s3⟩ := w2.newD (o := .tup [z, z2]) nT
              exact ⟨_, _, s3, w3, zipD_get e2 e3, .tup (.inl (.inl upd_same)) (.cons (hz.up (x.trans s3.ex)) (.one (hz2.up (x.trans s3.ex))))⟩
/-! comprehensions -/
def wipeE (E : Env') : List Nat → Env'
  | [] => E
  | v :: vs => (wipeE E vs).set v .u
theorem wipeE_len (E : Env') : ∀ vs, (wipeE E vs).length = E.length
  | [] => rfl
  | v :: vs => by unfold wipeE; rw [List.length_set, wipeE_len E vs]
theorem wipeE_at {E : Env'} : ∀ {vs : List Nat} {i : Nat} {n : En}, (wipeE E vs)[i]? = some n → n = .u ∨ (E[i]? = some n ∧ i ∉ vs)
  | [], _, _, h => .inr ⟨h, by simp⟩
  | v :: vs, i, n, h => by
    unfold wipeE at h
    rcases set_get h with ⟨_, q⟩ | ⟨q, h⟩
    · exact .inl q.symm
    · rcases wipeE_at h with z | ⟨z1, z2⟩
      · exact .inl z
      · exact .inr ⟨z1, by simp only [List.mem_cons, not_or]; exact ⟨fun e => q e.symm, z2⟩⟩
theorem wipe_other (σ : L2.St) : ∀ (vs : List Nat) (i : Nat), i ∉ vs → (wipe σ vs)[i]? = σ[i]?
  | [], _, _ => rfl
  | v :: vs, i, h => by
    simp only [List.mem_cons, not_or] at h
    unfold wipe
    rw [List.getElem?_set_ne (fun e => h.1 e.symm), wipe_other σ vs i h.2]
theorem wipe_same {σ τ : L2.St} {vs : List Nat} (hl : σ.length = τ.length) (h : ∀ j : Nat, j ∉ vs → σ[j]? = τ[j]?) : wipe σ vs = wipe τ vs := by
  have key : ∀ (ws : List Nat) (ρ : L2.St) (i : Nat), i ∈ ws → i < ρ.length → (wipe ρ ws)[i]? = some none := by
    intro ws ρ
    induction ws with
    | nil => intro i hi; simp at hi
    | cons v ws ih =>
      intro i hi hlt
      unfold wipe
      by_cases hv : v = i
      · subst hv; rw [List.getElem?_set_self (by rw [wipe_length]; exact hlt)]
      · rw [List.getElem?_set_ne hv]
        rcases List.mem_cons.mp hi with e | e
        · exact absurd e.symm hv
        · exact ih i e hlt
  apply List.ext_getElem?
  intro i
  by_cases hi : i ∈ vs
  · by_cases hlt : i < σ.length
    · rw [key vs σ i hi hlt, key vs τ i hi (by omega)]
    · rw [List.getElem?_eq_none (by rw [wipe_length]; omega), List.getElem?_eq_none (by rw [wipe_length]; omega)]
  · rw [wipe_other σ vs i hi, wipe_other τ vs i hi, h i hi]
theorem EnvD.wipe {H0 F H : Hp} {σ : L2.St} (e : EnvD K b H0 F H σ E) (vs : List Nat) : EnvD K b H0 F H (L2.wipe σ vs) (wipeE E vs) := by
  refine ⟨by rw [wipe_length, wipeE_len, e.len], fun i x h => ?_, fun i ds h => ?_, fun i j ds es p h1 h2 h3 h4 => ?_⟩
  · rcases wipeE_at h with z | ⟨z1, z2⟩
    · cases z
    · obtain ⟨v, q1, q2⟩ := e.dat i x z1
      exact ⟨v, by rw [wipe_other σ vs i z2]; exact q1, q2⟩
  · rcases wipeE_at h with z | ⟨z1, z2⟩
    · cases z
    · obtain ⟨p, us, q1, q2⟩ := e.own i ds z1
      exact ⟨p, us, by rw [wipe_other σ vs i z2]; exact q1, q2⟩
  · rcases wipeE_at h1 with z | ⟨z1, z2⟩
    · cases z
    · rcases wipeE_at h2 with y | ⟨y1, y2⟩
      · cases y
      · rw [wipe_other σ vs i z2] at h3
        rw [wipe_other σ vs j y2] at h4
        exact e.inj i j ds es p z1 y1 h3 h4
theorem wpl_lc {wi : TI} {tt : TT} {Φ : List D → Prop} (h : wpi K b wi E fun ds => ds.length ≤ 100000 ∧ ∃ I : Nat → List D → Prop, I 0 [] ∧
      (∀ (i : Nat) d acc, ds[i]? = some d → acc.length ≤ i → I i acc → wpg K b vs g d (wipeE E vs) fun E2 => wpt K b tt E2 fun r => if r = true then wpe K b te E2 fun y => I (i + 1) (acc ++ [y]) else I (i + 1) acc) ∧ ∀ acc, I ds.length acc → Φ acc) :
    wpl K b (tLc wi g tt te vs) E Φ := fun H0 F H σ w e Q k =>
  h H0 F H σ w e _ fun J F1 H1 ds s1 w1 it q => by
    intro Dn hDn
    obtain ⟨hz, I, i0, turn, fin⟩ := q
    have F1n := w1.outN hDn
    have nbD := w1.nb hDn
    obtain ⟨w1', s1'⟩ := w1.newO (o := .lst []) hDn
    refine ⟨fun i m H' => m = ds.length - i ∧ i ≤ ds.length ∧ ∃ F' us acc, Step b F1 H1 F' H' ∧ Wd K b F' H' ∧ F' Dn = none ∧ H' Dn = some (.lst us) ∧ DvA K b F' us acc ∧ acc.length ≤ i ∧ I i acc,
      ⟨ds.length, by omega, Nat.zero_le _, F1, [], [], s1', w1', F1n, upd_same, .nil, Nat.le_refl _, i0⟩, ?_⟩
    rintro i m H2 ⟨rfl, hi, F2, us, acc, s2, w2, n2, hD2, d2, l2, q2⟩
    by_cases hlt : i < ds.length
    · refine .inr ⟨it.go i F2 H2 s2.ex w2 hlt, fun H' => ∃ F' us acc, Step b F1 H1 F' H' ∧ Wd K b F' H' ∧ F' Dn = none ∧ H' Dn = some (.lst us) ∧ DvA K b F' us acc ∧ acc.length ≤ i + 1 ∧ I (i + 1) acc,
        fun H' n => ⟨ds.length - (i + 1), by omega, rfl, hlt, n⟩, fun x H3 hy => ?_⟩
      obtain ⟨F3, d, s3, w3, hd, hv⟩ := it.yld i F2 H2 x H3 s2.ex w2 hlt hy
      have s13 := s2.trans s3 w2
      refine turn i d acc hd l2 q2 H0 F3 H3 (wipe σ vs) x w3 ((e.step (s1.trans s13 w1)).wipe vs) hv _ fun σ4 F4 H4 E4 s4 w4 e4 l4 j4 q4 => ?_
      refine ⟨wipe_same l4 (fun j hj => j4 j hj) |>.trans ?_, ?_⟩
      · exact wipe_same (wipe_length ..) fun j hj => wipe_other σ vs j hj
      refine q4 H0 F4 H4 σ4 w4 e4 _ fun r F5 H5 s5 w5 q5 => ?_
      have s25 := (s3.trans s4 w3).trans s5 w4
      have hD5 := s25.keep Dn _ nbD hD2
      have n5 := s25.out Dn n2 (fun z => by rw [hD2] at z; cases z)
      cases r with
      | false =>
        exact ⟨F5, us, acc, s2.trans s25 w2, w5, n5, hD5, d2.up s25.ex, Nat.le_succ_of_le l2, q5⟩
      | true =>
        refine q5 H0 F5 H5 σ4 w5 (e4.step s5) _ fun y F6 H6 yd s6 w6 d6 q6 => ?_
        have hD6 := s6.keep Dn _ nbD hD5
        have n6 := s6.out Dn n5 (fun z => by rw [hD5] at z; cases z)
        have s26 := s25.trans s6 w5
        refine ⟨us, hD6, by rw [d2.len]; exact Nat.lt_of_le_of_lt (Nat.le_trans l2 (Nat.le_of_lt hlt)) (Nat.lt_of_le_of_lt hz (by decide)), F6, us ++ [y], acc ++ [yd], ?_, w6.turn n6 nbD, n6, upd_same, (d2.up s26.ex).app (.one d6), by rw [List.length_append]; exact Nat.succ_le_succ l2, q6⟩
        have s16 := s2.trans s26 w2
        exact ⟨s16.ex, fun a o n e => by rw [upd_ne (ne_of_none e hDn)]; exact s16.keep a o n e, s16.out⟩
    · have hi' : i = ds.length := by omega
      subst hi'
      exact .inl ⟨it.stop _ F2 H2 s2.ex w2 (Nat.le_refl _), k Dn us F2 H2 acc (s1.trans s2 w1) w2 (s1.fresh w1 hDn) n2 hD2 d2 (fin acc q2)⟩
end
end DL

namespace DL
open PySem PySem.Spec PyProof.Rows L2
/-! built-ins over data, by values -/
section
variable {X : Cx}
/-- repr(x), x plain data -/
def rRepr (K : PySem.W.Frag) : List V → Hp → VK → Prop := fun xs H Q => ∃ x d, xs = [x] ∧ Dp K H x d ∧ d.showable = true ∧ d.hasDict = false ∧ d.depth ≤ 60 ∧ d.shown.length ≤ sizeLine ∧ Q (.str d.shown) H
theorem call_reprD (hg : X.A.guards = some []) (hu : X.A.units + 100 < cLine) : CallR X (.builtin "repr") (rRepr X.K) := by
  intro pins s σ H xs us Q I r h
  obtain ⟨x, d, rfl, hd, h1, h2, h3, h4, q⟩ := h
  obtain ⟨u, rfl, ru⟩ := vals1 r
  obtain ⟨as, rd⟩ := Dp.reads I d x u hd ru
  cases d with
  | none => cases hd; cases ru; exact PySem.P.repr_of_none ⟨.str _, H, I.tok _, ⟨_, rfl⟩, q⟩
  | bool c => cases hd; cases ru; exact PySem.P.repr_of_bool ⟨.str _, H, I.tok _, ⟨_, rfl⟩, q⟩
  | int i =>
    cases hd
    obtain ⟨t, rfl⟩ := ru
    exact PySem.P.repr_of_int (by simpa [PyData.showable] using h1) ⟨.str _, H, I.tok _, ⟨_, rfl⟩, q⟩
  | str y =>
    cases hd
    obtain ⟨t, rfl⟩ := ru
    exact PySem.P.repr_of_str ⟨.str _, H, I.tok _, ⟨_, rfl⟩, q⟩ h4
  | dict kvs => cases hd
  | list ds =>
    cases hd with
    | lst e a =>
      cases ru
      exact repr_of_reads' rd h1 (PyData.noDict_hsm h2) hg (by omega) (fun _ _ z => z) (fun h' t tk hk => ⟨.str _, H, I.kept (t' := tk) hk, ⟨_, rfl⟩, q⟩) h4
  | tuple ds =>
    cases hd with
    | tup e a =>
      cases ru
      exact repr_of_reads' rd h1 (PyData.noDict_hsm h2) hg (by omega) (fun _ _ z => z) (fun h' t tk hk => ⟨.str _, H, I.kept (t' := tk) hk, ⟨_, rfl⟩, q⟩) h4
/-- sorted(xs), xs data that are alike -/
def rSrt (K : PySem.W.Frag) : List V → Hp → VK → Prop := fun vs H Q => ∃ (a : Addr) (xs : List V) (ds : List PyData), vs = [.ref a] ∧ SqL K H a xs ∧ DpAll K H xs ds ∧ PySem.W.AllAlike ds ∧ PySem.W.Sortable ds ∧ (∀ d ∈ ds, d.depth ≤ 60) ∧
  ∀ p, H p = none → Q (.ref p) (upd H p (.lst (((xs.zip ds).mergeSort (PySem.W.dataLe false Prod.snd)).map Prod.fst)))
theorem each_zip {pins : List (Addr × Obj)} {σ : L2.St} {H : Hp} {s : Shared} (I : L2.Inv X pins σ H s) : ∀ {xs : List V} {ds : List PyData} {us : List Value}, DpAll X.K H xs ds → Vals xs us →
    PySem.W.EachIs (fun u (p : V × PyData) => RelV p.1 u) us (xs.zip ds) ∧ PySem.W.EachIs (fun u (p : V × PyData) => ∃ as, Reads s.heap u p.2 as) us (xs.zip ds)
  | [], _, _, h, r => by cases h; cases r; exact ⟨.nil, .nil⟩
  | x :: xs, _, _, h, r => by
    cases h with
    | cons h1 h2 => cases r with
      | cons r1 r2 =>
        obtain ⟨a, b⟩ := each_zip I h2 r2
        exact ⟨.cons r1 a, .cons (Dp.reads I _ _ _ h1 r1) b⟩
theorem zip_snd : ∀ {xs : List V} {ds : List PyData} {K : PySem.W.Frag} {H : Hp}, DpAll K H xs ds → (xs.zip ds).map Prod.snd = ds ∧ xs.length = ds.length
  | [], _, _, _, h => by cases h; exact ⟨rfl, rfl⟩
  | x :: xs, _, _, _, h => by
    cases h with
    | cons h1 h2 =>
      obtain ⟨a, b⟩ := zip_snd h2
      exact ⟨by rw [List.zip_cons_cons, List.map_cons, a], by rw [List.length_cons, List.length_cons, b]⟩
theorem each_vals : ∀ {us : List Value} {ps : List (V × PyData)}, PySem.W.EachIs (fun u (p : V × PyData) => RelV p.1 u) us ps → Vals (ps.map Prod.fst) us
  | _, _, .nil => .nil
  | _, _, .cons h t => .cons h (each_vals t)
theorem call_srt (hu : X.A.units + 100 < cLine) : CallR X (.builtin "sorted") (rSrt X.K) := by
  intro pins s σ H vs us Q I r h
  obtain ⟨a, xs, ds, rfl, hs, hd, h1, h2, h3, q⟩ := h
  obtain ⟨its, rv, hl, hz⟩ := I.list hs
  rw [Vals.ref1 r]
  obtain ⟨e1, e2⟩ := each_zip I hd rv
  obtain ⟨z1, z2⟩ := zip_snd hd
  have hlen : (xs.zip ds).length = xs.length := by rw [List.length_zip]; omega
  refine PySem.W.sorted_data (enc := Prod.snd) hl.isList e1 e2 (by rw [z1]; exact h1) (by rw [z1]; exact h2) (by rw [hlen]; exact hz) (fun p hp => ?_) fun out ho hout => ?_
  · have : p.2 ∈ ds := by rw [← z1]; exact List.mem_map.mpr ⟨p, hp, rfl⟩
    have := h3 _ this
    omega
  · obtain ⟨ep, he'⟩ := PyProof.Rows.sortedAll_at s.heap its out.toArray
    have hv := each_vals hout
    refine ⟨.ref _, upd H (s.heap.objs.size + 1) (.lst _), I.laid (t' := s.toks) (fun _ _ => PyProof.Rows.sortedAll_old) (Nat.le_succ _) ⟨?_, out, ep, hv, he'⟩, rfl, q _ (I.hok.fresh (Nat.le_succ _))⟩
    rw [List.length_map, List.length_mergeSort, hlen]
    exact hz
/-- o[i] of a list, as an augmented assignment reads it -/
theorem get_list : PGet X (rIxL X.K) := by
  intro pins s σ H o i ov iv Q I ro ri h
  obtain ⟨p, xs, n, z, rfl, rfl, hq, he, q⟩ := h
  cases ro
  obtain ⟨t, rfl⟩ := ri
  obtain ⟨its, r, pl, hz⟩ := I.list hq
  obtain ⟨j, h1, h2, h3, h4, h5⟩ := atI_get he
  obtain ⟨w, ew, rw'⟩ := r.get h2
  have hl := r.length
  have hn := line63
  have fin : EP X pins σ Q w s := ⟨z, H, I, rw', q⟩
  by_cases h0 : 0 ≤ n
  · have hj : n.toNat = j := by
      rw [seqIndex_of h0 h5] at h1
      exact Option.some.inj h1
    exact PySem.wpAny_getItem_list pl.isList h0 (by omega) (by rw [hj]; simpa using ew) fin
  · have hj : (n + (its.toArray.size : Int)).toNat = j := by
      rw [seqIndex_neg (by omega) h4] at h1
      rw [List.size_toArray, ← hl]
      exact Option.some.inj h1
    exact PySem.wpAny_getItem_list_neg pl.isList (by omega) (by rw [List.size_toArray] <;> omega) (by omega) (by rw [hj]; simpa using ew) fin
end
end DL

namespace DL
open PySem PySem.Spec PyProof.Rows L2
/-! plain data -/
mutual
def D.py : D → PyData
  | .bl c => .bool c | .int i => .int i | .str x => .str x
  | .lst ds => .list (D.pyA ds) | .tup ds => .tuple (D.pyA ds) | .non => .none
  | .obj _ _ _ => .none | .bag => .none | .fn _ => .none
def D.pyA : List D → List PyData
  | [] => [] | d :: ds => d.py :: D.pyA ds
end
mutual
/-- of a depth up to n, texts of true signs -/
def D.ok : Nat → D → Bool
  | _, .non => true | _, .bl _ => true | _, .int _ => true | _, .str x => x.cps.all (· < 0x110000)
  | n + 1, .lst ds => D.okA n ds | n + 1, .tup ds => D.okA n ds
  | 0, .lst _ => false | 0, .tup _ => false | _, .obj _ _ _ => false | _, .bag => false | _, .fn _ => false
def D.okA : Nat → List D → Bool
  | _, [] => true | n, d :: ds => D.ok n d && D.okA n ds
end
theorem okA_of {n : Nat} : ∀ {ds : List D}, (∀ d ∈ ds, D.ok n d = true) → D.okA n ds = true
  | [], _ => by unfold D.okA; rfl
  | d :: ds, h => by
    unfold D.okA
    rw [h d List.mem_cons_self, okA_of fun z hz => h z (List.mem_cons_of_mem _ hz)]; rfl
theorem okA_mem {n : Nat} : ∀ {ds : List D}, D.okA n ds = true → ∀ d ∈ ds, D.ok n d = true
  | [], _, _, hd => by cases hd
  | e :: ds, h, d, hd => by
    unfold D.okA at h
    rw [Bool.and_eq_true] at h
    rcases List.mem_cons.mp hd with rfl | hd
    · exact h.1
    · exact okA_mem h.2 d hd
mutual
theorem ok_lay : ∀ (n : Nat) (d : D), D.ok n d = true → d.py.canLay0 = true ∧ d.py.depth ≤ n ∧ d.py.hasDict = false
  | _, .non, _ => ⟨rfl, Nat.zero_le _, rfl⟩
  | _, .bl _, _ => ⟨rfl, Nat.zero_le _, rfl⟩
  | _, .int _, _ => ⟨rfl, Nat.zero_le _, rfl⟩
  | _, .str x, h => ⟨by unfold D.ok at h; unfold D.py PyData.canLay0; exact h, Nat.zero_le _, rfl⟩
  | n + 1, .lst ds, h => by
    unfold D.ok at h
    obtain ⟨h1, h2, h3⟩ := okA_lay n ds h
    exact ⟨by unfold D.py PyData.canLay0; exact h1, by unfold D.py PyData.depth; omega, by unfold D.py PyData.hasDict; exact h3⟩
  | n + 1, .tup ds, h => by
    unfold D.ok at h
    obtain ⟨h1, h2, h3⟩ := okA_lay n ds h
    exact ⟨by unfold D.py PyData.canLay0; exact h1, by unfold D.py PyData.depth; omega, by unfold D.py PyData.hasDict; exact h3⟩
  | 0, .lst _, h => by unfold D.ok at h; cases h
  | 0, .tup _, h => by unfold D.ok at h; cases h
  | 0, .obj _ _ _, h => by unfold D.ok at h; cases h
  | 0, .bag, h => by unfold D.ok at h; cases h
  | 0, .fn _, h => by unfold D.ok at h; cases h
  | _ + 1, .obj _ _ _, h => by unfold D.ok at h; cases h
  | _ + 1, .bag, h => by unfold D.ok at h; cases h
  | _ + 1, .fn _, h => by unfold D.ok at h; cases h
theorem okA_lay : ∀ (n : Nat) (ds : List D), D.okA n ds = true → PyData.canLayAll0 (D.pyA ds) = true ∧ PyData.depthAll (D.pyA ds) ≤ n ∧ PyData.hasDictAll (D.pyA ds) = false
  | _, [], _ => ⟨rfl, Nat.zero_le _, rfl⟩
  | n, d :: ds, h => by
    unfold D.okA at h
    rw [Bool.and_eq_true] at h
    obtain ⟨a1, a2, a3⟩ := ok_lay n d h.1
    obtain ⟨b1, b2, b3⟩ := okA_lay n ds h.2
    refine ⟨?_, ?_, ?_⟩
    · unfold D.pyA PyData.canLayAll0; rw [a1, b1]; rfl
    · unfold D.pyA PyData.depthAll; omega
    · unfold D.pyA PyData.hasDictAll; rw [a3, b3]; rfl
end
theorem pyA_map : ∀ ds : List D, D.pyA ds = ds.map D.py
  | [] => rfl
  | d :: ds => by unfold D.pyA; rw [pyA_map ds]; rfl
mutual
theorem Dv.dp {K : PySem.W.Frag} {b : Bg} {F : Hp} : ∀ (n : Nat) (d : D) (v : V), D.ok n d = true → Dv K b F v d → Dp K F v d.py
  | _, .non, _, _, h => by cases h; exact .non
  | _, .bl _, _, _, h => by cases h; exact .bl _
  | _, .int _, _, _, h => by cases h; exact .int _
  | _, .str _, _, _, h => by cases h; exact .str _
  | n + 1, .lst ds, _, o, h => by
    unfold D.ok at o
    cases h with | lst s a => unfold D.py; exact .lst (SqL.of s) (DvA.dp n ds _ o a)
  | n + 1, .tup ds, _, o, h => by
    unfold D.ok at o
    cases h with | tup s a => unfold D.py; exact .tup s (DvA.dp n ds _ o a)
  | 0, .lst _, _, o, _ => by unfold D.ok at o; cases o
  | 0, .tup _, _, o, _ => by unfold D.ok at o; cases o
  | 0, .obj _ _ _, _, o, _ => by unfold D.ok at o; cases o
  | 0, .bag, _, o, _ => by unfold D.ok at o; cases o
  | 0, .fn _, _, o, _ => by unfold D.ok at o; cases o
  | _ + 1, .obj _ _ _, _, o, _ => by unfold D.ok at o; cases o
  | _ + 1, .bag, _, o, _ => by unfold D.ok at o; cases o
  | _ + 1, .fn _, _, o, _ => by unfold D.ok at o; cases o
theorem DvA.dp {K : PySem.W.Frag} {b : Bg} {F : Hp} : ∀ (n : Nat) (ds : List D) (vs : List V), D.okA n ds = true → DvA K b F vs ds → DpAll K F vs (D.pyA ds)
  | _, [], _, _, h => by cases h; exact .nil
  | n, d :: ds, _, o, h => by
    unfold D.okA at o
    rw [Bool.and_eq_true] at o
    cases h with
    | cons x y => exact .cons (Dv.dp n d _ o.1 x) (DvA.dp n ds _ o.2 y)
end
mutual
theorem dpUp {K : PySem.W.Frag} {F G : Hp} (e : Ex F G) : ∀ (d : PyData) (v : V), Dp K F v d → Dp K G v d
  | .none, _, h => by cases h; exact .non
  | .bool _, _, h => by cases h; exact .bl _
  | .int _, _, h => by cases h; exact .int _
  | .str _, _, h => by cases h; exact .str _
  | .list ds, _, h => by cases h with | lst s a => exact .lst (exL e s) (dpUpA e ds _ a)
  | .tuple ds, _, h => by cases h with | tup s a => exact .tup (exT e s) (dpUpA e ds _ a)
  | .dict _, _, h => by cases h
theorem dpUpA {K : PySem.W.Frag} {F G : Hp} (e : Ex F G) : ∀ (ds : List PyData) (vs : List V), DpAll K F vs ds → DpAll K G vs ds
  | [], _, h => by cases h; exact .nil
  | d :: ds, _, h => by cases h with | cons x y => exact .cons (dpUp e d _ x) (dpUpA e ds _ y)
end
/-- == of plain data -/
def D.eq (x y : D) : Bool := PyData.eqv x.py y.py
section
variable {K : PySem.W.Frag} {b : Bg} {Φ : D → Prop}
/-! operators -/
theorem rd_I0i {f : Int → Int → Int} {i j : Int} (q : Φ (.int (f i j))) : rd2 K b (rI0 fun i j => .int (f i j)) (.int i) (.int j) Φ := fun F H v u w d1 d2 Q k => by
  cases d1; cases d2; exact ⟨i, j, rfl, rfl, k _ F H _ .refl w (.int _) q⟩
theorem rd_I0b {f : Int → Int → Bool} {i j : Int} (q : Φ (.bl (f i j))) : rd2 K b (rI0 fun i j => .bl (f i j)) (.int i) (.int j) Φ := fun F H v u w d1 d2 Q k => by
  cases d1; cases d2; exact ⟨i, j, rfl, rfl, k _ F H _ .refl w (.bl _) q⟩
theorem rd_I {C : Int → Int → Prop} {f : Int → Int → Int} {i j : Int} (c : C i j) (q : Φ (.int (f i j))) : rd2 K b (rI C fun i j => .int (f i j)) (.int i) (.int j) Φ := fun F H v u w d1 d2 Q k => by
  cases d1; cases d2; exact ⟨i, j, rfl, rfl, c, k _ F H _ .refl w (.int _) q⟩
theorem rd_neg {f : Int → Int} {i : Int} (q : Φ (.int (f i))) : rd1 K b (rU fun i => .int (f i)) (.int i) Φ := fun F H v w d1 Q k => by
  cases d1; exact ⟨i, rfl, k _ F H _ .refl w (.int _) q⟩
theorem rd_eqD {x y : D} (n : Nat) (hn : n ≤ 60) (h1 : D.ok n x = true) (h2 : D.ok n y = true) (q : Φ (.bl (x.eq y))) : rd2 K b (rEqD K) x y Φ := fun F H v u w d1 d2 Q k => by
  obtain ⟨a1, a2, _⟩ := ok_lay n x h1
  obtain ⟨b1, b2, _⟩ := ok_lay n y h2
  refine ⟨x.py, y.py, dpUp w.ex _ _ (Dv.dp n x v h1 d1), dpUp w.ex _ _ (Dv.dp n y u h2 d2), ?_, ?_, k _ F H _ .refl w (.bl _) q⟩
  · unfold SeqAt.shaped; rw [a1]; simp; omega
  · unfold SeqAt.shaped; rw [b1]; simp; omega
theorem rd_neD {x y : D} (n : Nat) (hn : n ≤ 60) (h1 : D.ok n x = true) (h2 : D.ok n y = true) (q : Φ (.bl (!x.eq y))) : rd2 K b (rNeD K) x y Φ := fun F H v u w d1 d2 Q k => by
  obtain ⟨a1, a2, _⟩ := ok_lay n x h1
  obtain ⟨b1, b2, _⟩ := ok_lay n y h2
  refine ⟨x.py, y.py, dpUp w.ex _ _ (Dv.dp n x v h1 d1), dpUp w.ex _ _ (Dv.dp n y u h2 d2), ?_, ?_, k _ F H _ .refl w (.bl _) q⟩
  · unfold SeqAt.shaped; rw [a1]; simp; omega
  · unfold SeqAt.shaped; rw [b1]; simp; omega
theorem rd_notIn {x : D} {ds : List D} (n : Nat) (hn : n ≤ 60) (h1 : D.ok n x = true) (h2 : D.ok n (.lst ds) = true) (q : Φ (.bl (!ds.any fun z => z.eq x))) : rd2 K b (rNotInD K) x (.lst ds) Φ := fun F H v u w d1 d2 Q k => by
  obtain ⟨a1, a2, _⟩ := ok_lay n x h1
  obtain ⟨b1, b2, _⟩ := ok_lay n _ h2
  have hl : D.py (.lst ds) = .list (ds.map D.py) := by unfold D.py; rw [pyA_map]
  refine ⟨x.py, ds.map D.py, dpUp w.ex _ _ (Dv.dp n x v h1 d1), hl ▸ dpUp w.ex _ _ (Dv.dp n _ u h2 d2), ?_, ?_, ?_⟩
  · unfold SeqAt.shaped; rw [a1]; simp; omega
  · rw [← hl]; unfold SeqAt.shaped; rw [b1]; simp; omega
  · have e : ((ds.map D.py).any fun z => PyData.eqv z x.py) = ds.any fun z => z.eq x := by rw [List.any_map]; rfl
    rw [e]; exact k _ F H _ .refl w (.bl _) q
theorem rd_in {x : D} {ds : List D} (n : Nat) (hn : n ≤ 60) (h1 : D.ok n x = true) (h2 : D.ok n (.lst ds) = true) (q : Φ (.bl (ds.any fun z => z.eq x))) : rd2 K b (rInD K) x (.lst ds) Φ := fun F H v u w d1 d2 Q k => by
  obtain ⟨a1, a2, _⟩ := ok_lay n x h1
  obtain ⟨b1, b2, _⟩ := ok_lay n _ h2
  have hl : D.py (.lst ds) = .list (ds.map D.py) := by unfold D.py; rw [pyA_map]
  refine ⟨x.py, ds.map D.py, dpUp w.ex _ _ (Dv.dp n x v h1 d1), hl ▸ dpUp w.ex _ _ (Dv.dp n _ u h2 d2), ?_, ?_, ?_⟩
  · unfold SeqAt.shaped; rw [a1]; simp; omega
  · rw [← hl]; unfold SeqAt.shaped; rw [b1]; simp; omega
  · have e : ((ds.map D.py).any fun z => PyData.eqv z x.py) = ds.any fun z => z.eq x := by rw [List.any_map]; rfl
    rw [e]; exact k _ F H _ .refl w (.bl _) q
theorem atI_dv {F : Hp} {vs : List V} {ds : List D} {i : Int} {d : D} (h : DvA K b F vs ds) (e : atI ds i = some d) : ∃ v, atI vs i = some v ∧ Dv K b F v d := by
  unfold atI at e ⊢
  rw [h.len]
  cases q : ixN ds.length i with
  | none => rw [q] at e; cases e
  | some j =>
    rw [q] at e
    obtain ⟨v, h1, h2⟩ := h.get (i := j) (d := d) e
    exact ⟨v, h1, h2⟩
theorem rd_ixL {ds : List D} {i : Int} {d : D} (e : atI ds i = some d) (q : Φ d) : rd2 K b (rIxL K) (.lst ds) (.int i) Φ := fun F H v u w d1 d2 Q k => by
  cases d1 with
  | lst s a =>
    cases d2
    obtain ⟨z, e1, dz⟩ := atI_dv a e
    exact ⟨_, _, i, z, rfl, rfl, SqL.of (w.ex _ _ s), e1, k z F H _ .refl w dz q⟩
theorem rd_ixT {ds : List D} {i : Int} {d : D} (e : atI ds i = some d) (q : Φ d) : rd2 K b (rIxT K) (.tup ds) (.int i) Φ := fun F H v u w d1 d2 Q k => by
  cases d1 with
  | tup s a =>
    cases d2
    obtain ⟨z, e1, dz⟩ := atI_dv a e
    exact ⟨_, _, i, z, rfl, rfl, exT w.ex s, e1, k z F H _ .refl w dz q⟩
theorem rd_cat {ds es : List D} {Φ : List D → Prop} (hz : ds.length + es.length ≤ 100000) (q : Φ (ds ++ es)) : rd2l K b rCat (.lst ds) (.lst es) Φ := fun F H v u w d1 d2 Q k => by
  cases d1 with
  | lst s a =>
    cases d2 with
    | lst s2 a2 =>
      refine ⟨_, _, _, _, rfl, rfl, w.ex _ _ s, w.ex _ _ s2, by rw [a.len, a2.len]; exact Nat.le_trans hz (by decide), fun p hp => ?_⟩
      obtain ⟨w2, s2⟩ := w.newO (o := .lst _) hp
      exact k p _ F _ _ s2 w2 hp (w.outN hp) upd_same (a.app a2) q
theorem rd_catT {ds es : List D} (h0 : ds ≠ []) (hz : ds.length + es.length ≤ 100000) (q : Φ (.tup (ds ++ es))) : rd2 K b (rCatT K) (.tup ds) (.tup es) Φ := fun F H v u w d1 d2 Q k => by
  cases d1 with
  | tup s a =>
    cases d2 with
    | tup s2 a2 =>
      rename_i a1 xs a3 ys
      refine ⟨_, _, xs, ys, rfl, rfl, exT w.ex s, exT w.ex s2, fun z => ?_, by rw [a.len, a2.len]; exact Nat.le_trans hz (by decide), fun z => ?_, fun _ p hp => ?_⟩
      · subst z; cases a; exact h0 rfl
      · subst z
        cases a2
        rw [List.append_nil] at q
        exact k _ F H _ .refl w (.tup s a) q
      · obtain ⟨w2, s2⟩ := w.newD (o := .tup _) hp
        exact k _ _ _ _ s2 w2 (.tup (.inl (.inl upd_same)) ((a.app a2).up s2.ex)) q
/-! built-ins -/
theorem rc_abs {i : Int} (q : Φ (.int (if i < 0 then -i else i))) : rdc K b (fun xs H Q => ∃ i, xs = [.int i] ∧ Q (.int (if i < 0 then -i else i)) H) [.int i] Φ := fun F H vs w d Q k => by
  cases d with | cons d1 d => (cases d; cases d1; exact ⟨i, rfl, k _ F H _ .refl w (.int _) q⟩)
theorem rc_max {i j : Int} (q : Φ (.int (if j > i then j else i))) : rdc K b (fun xs H Q => ∃ i j, xs = [.int i, .int j] ∧ Q (.int (if j > i then j else i)) H) [.int i, .int j] Φ := fun F H vs w d Q k => by
  cases d with | cons d1 d => cases d with | cons d2 d => (cases d; cases d1; cases d2; exact ⟨i, j, rfl, k _ F H _ .refl w (.int _) q⟩)
theorem rc_min {i j : Int} (q : Φ (.int (if j < i then j else i))) : rdc K b (fun xs H Q => ∃ i j, xs = [.int i, .int j] ∧ Q (.int (if j < i then j else i)) H) [.int i, .int j] Φ := fun F H vs w d Q k => by
  cases d with | cons d1 d => cases d with | cons d2 d => (cases d; cases d1; cases d2; exact ⟨i, j, rfl, k _ F H _ .refl w (.int _) q⟩)
def rLen (K : PySem.W.Frag) : List V → Hp → VK → Prop := fun xs H Q => ∃ p ys, xs = [.ref p] ∧ (SqL K H p ys ∨ SqT K H p ys) ∧ Q (.int ys.length) H
theorem call_lenS {X : Cx} : CallR X (.builtin "len") (rLen X.K) := call_len_seq
theorem rc_lenL {ds : List D} (q : Φ (.int (ds.length : Nat))) : rdc K b (rLen K) [.lst ds] Φ := fun F H vs w d Q k => by
  cases d with
  | cons d1 d =>
    cases d
    cases d1 with
    | lst s a => exact ⟨_, _, rfl, .inl (SqL.of (w.ex _ _ s)), k _ F H _ .refl w (by rw [a.len]; exact .int _) q⟩
theorem rc_lenT {ds : List D} (q : Φ (.int (ds.length : Nat))) : rdc K b (rLen K) [.tup ds] Φ := fun F H vs w d Q k => by
  cases d with
  | cons d1 d =>
    cases d
    cases d1 with
    | tup s a => exact ⟨_, _, rfl, .inr (exT w.ex s), k _ F H _ .refl w (by rw [a.len]; exact .int _) q⟩
def rList (K : PySem.W.Frag) : List V → Hp → VK → Prop := fun xs H Q => ∃ p ys, xs = [.ref p] ∧ (SqL K H p ys ∨ SqT K H p ys) ∧ ∀ l, H l = none → Q (.ref l) (upd H l (.lst ys))
theorem call_listS {X : Cx} : CallR X (.type "list") (rList X.K) := call_list_of
theorem rcl_listL {ds : List D} {Φ : List D → Prop} (q : Φ ds) : rdcl K b (rList K) [.lst ds] Φ := fun F H vs w d Q k => by
  cases d with
  | cons d1 d =>
    cases d
    cases d1 with
    | lst s a =>
      refine ⟨_, _, rfl, .inl (SqL.of (w.ex _ _ s)), fun p hp => ?_⟩
      obtain ⟨w2, s2⟩ := w.newO (o := .lst _) hp
      exact k p _ F _ _ s2 w2 hp (w.outN hp) upd_same a q
theorem rcl_listT {ds : List D} {Φ : List D → Prop} (q : Φ ds) : rdcl K b (rList K) [.tup ds] Φ := fun F H vs w d Q k => by
  cases d with
  | cons d1 d =>
    cases d
    cases d1 with
    | tup s a =>
      refine ⟨_, _, rfl, .inr (exT w.ex s), fun p hp => ?_⟩
      obtain ⟨w2, s2⟩ := w.newO (o := .lst _) hp
      exact k p _ F _ _ s2 w2 hp (w.outN hp) upd_same a q
def rTuple (K : PySem.W.Frag) : List V → Hp → VK → Prop := fun xs H Q => ∃ p ys, xs = [.ref p] ∧ ((SqL K H p ys ∧ ∀ l, H l = none → Q (.ref l) (upd H l (.tup ys))) ∨ (SqT K H p ys ∧ Q (.ref p) H))
theorem call_tupleS {X : Cx} : CallR X (.type "tuple") (rTuple X.K) := call_tuple_of
theorem rc_tupleL {ds : List D} (q : Φ (.tup ds)) : rdc K b (rTuple K) [.lst ds] Φ := fun F H vs w d Q k => by
  cases d with
  | cons d1 d =>
    cases d
    cases d1 with
    | lst s a =>
      refine ⟨_, _, rfl, .inl ⟨SqL.of (w.ex _ _ s), fun p hp => ?_⟩⟩
      obtain ⟨w2, s2⟩ := w.newD (o := .tup _) hp
      exact k _ _ _ _ s2 w2 (.tup (.inl (.inl upd_same)) (a.up s2.ex)) q
theorem rc_all {bs : List Bool} (q : Φ (.bl (bs.all id))) : rdc K b (rAll K) [.lst (bs.map D.bl)] Φ := fun F H vs w d Q k => by
  cases d with
  | cons d1 d =>
    cases d
    cases d1 with
    | lst s a =>
      have e := a.bls
      subst e
      exact ⟨_, bs, rfl, SqL.of (w.ex _ _ s), k _ F H _ .refl w (.bl _) q⟩
theorem rc_any {bs : List Bool} (q : Φ (.bl (bs.any id))) : rdc K b (rAny K) [.lst (bs.map D.bl)] Φ := fun F H vs w d Q k => by
  cases d with
  | cons d1 d =>
    cases d
    cases d1 with
    | lst s a =>
      have e := a.bls
      subst e
      exact ⟨_, bs, rfl, SqL.of (w.ex _ _ s), k _ F H _ .refl w (.bl _) q⟩
theorem rc_sum {ns : List Int} (q : Φ (.int ns.sum)) : rdc K b (rSum K) [.lst (ns.map D.int)] Φ := fun F H vs w d Q k => by
  cases d with
  | cons d1 d =>
    cases d
    cases d1 with
    | lst s a =>
      have e := a.ints
      subst e
      exact ⟨_, ns, rfl, SqL.of (w.ex _ _ s), k _ F H _ .refl w (.int _) q⟩
/-- sorted of plain alike data -/
theorem zip_dv {F : Hp} : ∀ {vs : List V} {ds : List D}, DvA K b F vs ds → ∀ p ∈ vs.zip ds, Dv K b F p.1 p.2
  | _, [], h, p, hp => by cases h; cases hp
  | _, d :: ds, h, p, hp => by
    cases h with
    | cons x y =>
      rw [List.zip_cons_cons] at hp
      rcases List.mem_cons.mp hp with rfl | hp
      · exact x
      · exact zip_dv y p hp
theorem dva_of {F : Hp} : ∀ {ps : List (V × D)}, (∀ p ∈ ps, Dv K b F p.1 p.2) → DvA K b F (ps.map Prod.fst) (ps.map Prod.snd)
  | [], _ => .nil
  | p :: ps, h => .cons (h p List.mem_cons_self) (dva_of fun q hq => h q (List.mem_cons_of_mem _ hq))
def leD (x y : D) : Bool := PySem.W.dataLe false D.py x y
theorem rcl_sorted {ds : List D} {Φ : List D → Prop} (n : Nat) (hn : n ≤ 60) (h1 : D.okA n ds = true) (h2 : PySem.W.AllAlike (ds.map D.py)) (h3 : PySem.W.Sortable (ds.map D.py)) (q : Φ (ds.mergeSort leD)) : rdcl K b (rSrt K) [.lst ds] Φ := fun F H vs w d Q k => by
  cases d with
  | cons d1 d =>
    cases d
    cases d1 with
    | lst s a =>
      rename_i ad xs
      obtain ⟨_, a2, _⟩ := okA_lay n ds h1
      refine ⟨ad, xs, D.pyA ds, rfl, SqL.of (w.ex _ _ s), dpUpA w.ex _ _ (DvA.dp n ds xs h1 a), by rw [pyA_map]; exact h2, by rw [pyA_map]; exact h3, fun z hz => ?_, fun p hp => ?_⟩
      · rw [pyA_map] at hz
        obtain ⟨y, hy, rfl⟩ := List.mem_map.mp hz
        exact Nat.le_trans (ok_lay n y (okA_mem h1 y hy)).2.1 hn
      · let zs := (xs.zip ds).mergeSort (PySem.W.dataLe false fun p : V × D => p.2.py)
        have e1 : ((xs.zip (D.pyA ds)).mergeSort (PySem.W.dataLe false Prod.snd)).map Prod.fst = zs.map Prod.fst := by
          have hm : (xs.zip ds).map (fun p => (p.1, p.2.py)) = xs.zip (D.pyA ds) := by rw [pyA_map, List.zip_map_right]; rfl
          have hs := PySem.W.sort_maps (r := PySem.W.dataLe false fun p : V × D => p.2.py) (s := PySem.W.dataLe false (Prod.snd : V × PyData → PyData)) (fun p : V × D => (p.1, p.2.py)) (l := xs.zip ds) (fun _ _ _ _ => rfl)
          rw [← hm, ← hs, List.map_map]
          rfl
        have e2 : zs.map Prod.snd = ds.mergeSort leD := by
          have hs := PySem.W.sort_maps (r := PySem.W.dataLe false fun p : V × D => p.2.py) (s := leD) (Prod.snd : V × D → D) (l := xs.zip ds) (fun _ _ _ _ => rfl)
          rw [hs, List.map_snd_zip]
          exact Nat.le_of_eq a.len.symm
        have hd : DvA K b F (zs.map Prod.fst) (ds.mergeSort leD) := by
          rw [← e2]
          refine dva_of fun p hp => zip_dv a p ?_
          exact (List.mem_mergeSort).mp hp
        obtain ⟨w2, s2⟩ := w.newO (o := .lst (zs.map Prod.fst)) hp
        rw [e1]
        exact k p _ F _ _ s2 w2 hp (w.outN hp) upd_same hd q
end
end DL

namespace DL
open PySem PySem.Spec PyProof.Rows L2
/-! what a text of plain data costs -/
mutual
/-- no int is great -/
def D.sm : D → Bool
  | .non => true | .bl _ => true | .int i => decide (i.natAbs < 10 ^ 50) | .str _ => true
  | .lst ds => D.smA ds | .tup ds => D.smA ds | .obj _ _ _ => true | .bag => true | .fn _ => true
def D.smA : List D → Bool
  | [] => true | d :: ds => D.sm d && D.smA ds
end
mutual
def D.cost : D → Nat
  | .int _ => 60 | .str x => 10 * x.length + 4
  | .lst ds => D.costA ds + 5 | .tup ds => D.costA ds + 5
  | .non => 10 | .bl _ => 10 | .obj _ _ _ => 10 | .bag => 10 | .fn _ => 10
def D.costA : List D → Nat
  | [] => 0 | d :: ds => D.cost d + 2 + D.costA ds
end
theorem smA_of : ∀ {ds : List D}, (∀ d ∈ ds, D.sm d = true) → D.smA ds = true
  | [], _ => by unfold D.smA; rfl
  | d :: ds, h => by
    unfold D.smA
    rw [h d List.mem_cons_self, smA_of fun z hz => h z (List.mem_cons_of_mem _ hz)]; rfl
theorem costA_le {c : Nat} : ∀ {ds : List D}, (∀ d ∈ ds, D.cost d ≤ c) → D.costA ds ≤ ds.length * (c + 2)
  | [], _ => by unfold D.costA; exact Nat.zero_le _
  | d :: ds, h => by
    unfold D.costA
    have h1 := h d List.mem_cons_self
    have h2 := costA_le (c := c) fun z hz => h z (List.mem_cons_of_mem _ hz)
    rw [List.length_cons, Nat.succ_mul]; omega
theorem int_shown {i : Int} (h : i.natAbs < 10 ^ 50) : (PyData.shown (.int i)).length ≤ 60 ∧ i.natAbs.log2 < 1920 := by
  refine ⟨?_, log2_small (Nat.lt_trans h (by decide +kernel))⟩
  have e := int_text_length_le10 (k := 50) (by decide) h
  show (Str.ofString (toString i)).length ≤ 60
  rw [PySem.ofString_length]; omega
mutual
theorem shown_cost : ∀ (n : Nat) (d : D), D.ok n d = true → D.sm d = true → d.py.shown.length ≤ d.cost ∧ d.py.showable = true
  | _, .non, _, _ => by unfold D.py D.cost PyData.shown PyData.showable; exact ⟨by decide, rfl⟩
  | _, .bl c, _, _ => by unfold D.py D.cost PyData.shown PyData.showable; exact ⟨by cases c <;> decide, rfl⟩
  | _, .int i, _, s => by
    unfold D.sm at s
    obtain ⟨h1, h2⟩ := int_shown (of_decide_eq_true s)
    unfold D.py D.cost PyData.showable; exact ⟨h1, decide_eq_true h2⟩
  | _, .str x, o, _ => by
    unfold D.ok at o
    unfold D.py D.cost PyData.shown PyData.showable
    refine ⟨Nat.le_trans (StrLaws.reprText_len x fun c hc => ?_) (Nat.add_le_add_left (by decide) _), rfl⟩
    have := Array.all_eq_true'.mp o c (by simpa using hc)
    have := of_decide_eq_true this
    omega
  | n + 1, .lst ds, o, s => by
    unfold D.ok at o
    unfold D.sm at s
    obtain ⟨h1, h2⟩ := shown_costA n ds o s
    have h3 := listText_len_le (PyData.shownAll (D.pyA ds))
    unfold D.py D.cost PyData.shown PyData.showable
    exact ⟨by omega, h2⟩
  | n + 1, .tup ds, o, s => by
    unfold D.ok at o
    unfold D.sm at s
    obtain ⟨h1, h2⟩ := shown_costA n ds o s
    have h3 := tupleText_len_le (PyData.shownAll (D.pyA ds))
    unfold D.py D.cost PyData.shown PyData.showable
    exact ⟨by omega, h2⟩
  | 0, .lst _, h, _ => by unfold D.ok at h; cases h
  | 0, .tup _, h, _ => by unfold D.ok at h; cases h
  | 0, .obj _ _ _, h, _ => by unfold D.ok at h; cases h
  | 0, .bag, h, _ => by unfold D.ok at h; cases h
  | 0, .fn _, h, _ => by unfold D.ok at h; cases h
  | _ + 1, .obj _ _ _, h, _ => by unfold D.ok at h; cases h
  | _ + 1, .bag, h, _ => by unfold D.ok at h; cases h
  | _ + 1, .fn _, h, _ => by unfold D.ok at h; cases h
theorem shown_costA : ∀ (n : Nat) (ds : List D), D.okA n ds = true → D.smA ds = true → ((PyData.shownAll (D.pyA ds)).map (·.length)).sum + 2 * (PyData.shownAll (D.pyA ds)).length ≤ D.costA ds ∧ PyData.showableAll (D.pyA ds) = true
  | _, [], _, _ => by unfold D.pyA D.costA PyData.shownAll PyData.showableAll; exact ⟨by simp, rfl⟩
  | n, d :: ds, o, s => by
    unfold D.okA at o
    unfold D.smA at s
    rw [Bool.and_eq_true] at o s
    obtain ⟨a1, a2⟩ := shown_cost n d o.1 s.1
    obtain ⟨b1, b2⟩ := shown_costA n ds o.2 s.2
    unfold D.pyA D.costA PyData.shownAll PyData.showableAll
    rw [a2, b2, List.map_cons, List.sum_cons, List.length_cons]
    exact ⟨by omega, rfl⟩
end
section
variable {K : PySem.W.Frag} {b : Bg} {Φ : D → Prop}
theorem rc_repr {x : D} (n : Nat) (hn : n ≤ 60) (h1 : D.ok n x = true) (h2 : D.sm x = true) (h3 : x.cost ≤ 10000000) (q : Φ (.str x.py.shown)) : rdc K b (rRepr K) [x] Φ := fun F H vs w d Q k => by
  cases d with
  | cons d1 d =>
    cases d
    obtain ⟨a1, a2, a3⟩ := ok_lay n x h1
    obtain ⟨c1, c2⟩ := shown_cost n x h1 h2
    exact ⟨_, x.py, rfl, dpUp w.ex _ _ (Dv.dp n x _ h1 d1), c2, a3, Nat.le_trans a2 hn, Nat.le_trans c1 (Nat.le_trans h3 (by decide)), k _ F H _ .refl w (.str _) q⟩
end
/-! lists of the def's own -/
def rInsert : V → List V → Hp → VK → Prop := fun x vs H Q => ∃ (l : Addr) (xs : List V) (i : Int) (y : V), x = .ref l ∧ vs = [.int i, y] ∧ H l = some (.lst xs) ∧ xs.length < sizeLine ∧ 0 ≤ i ∧ i < 2 ^ 63 ∧
    Q .non (upd H l (.lst (xs.take i.toNat ++ [y] ++ xs.drop i.toNat)))
theorem mt_ins {X : Cx} : MtR X "list.insert" rInsert := mt_insert
section
variable {K : PySem.W.Frag} {b : Bg} {E : Env'} {ta tb te : TE} {t : TS} {P : Po} {Φ : D → Prop}
theorem Step.turn {F0 H0 F H : Hp} {p : Addr} {o : HO} (s : Step b F0 H0 F H) (h : H0 p = none) : Step b F0 H0 F (upd H p o) :=
  ⟨s.ex, fun a u n e => by rw [upd_ne (ne_of_none e h)]; exact s.keep a u n e, s.out⟩
theorem wps_append {i : Nat} {ds : List D} (hi : E[i]? = some (.o ds)) (h : wpe K b te E fun y => ds.length < 100000 ∧ P.nx (E.set i (.o (ds ++ [y])))) :
    wps K b (tDrop (tBM K "list" rAppend (tVar i) (tCons te tNil))) E P := fun F0 H0 F H σ s w e Dn k => by
  obtain ⟨p, us, h1, h2, h3, h4, h5, h6⟩ := e.own i ds hi
  refine ⟨_, h1, .inl ⟨rfl, us, SqL.of h5⟩, h H0 F H σ w e _ fun y F' H' yd s' w' d q => ?_⟩
  have h5' := s'.keep p _ h4 h5
  have h3' := s'.out p h3 (fun z => by rw [h5] at z; cases z)
  refine ⟨p, us, y, rfl, rfl, h5', by rw [h6.len]; exact Nat.lt_of_lt_of_le q.1 (by decide), ?_⟩
  exact k.nx σ F' _ _ s'.ex ((s.trans s' w).turn h2) (w'.turn h3' h4) ((e.step s').turn hi h1 ((h6.up s'.ex).app (.one d)) h3') q.2
theorem wps_insert {i : Nat} {ds : List D} (hi : E[i]? = some (.o ds)) (h : wpe K b ta E fun x => wpe K b te E fun y => ∃ n : Int, x = .int n ∧ 0 ≤ n ∧ n ≤ 100000 ∧ ds.length < 100000 ∧ P.nx (E.set i (.o (ds.take n.toNat ++ [y] ++ ds.drop n.toNat)))) :
    wps K b (tDrop (tBM K "list" rInsert (tVar i) (tCons ta (tCons te tNil)))) E P := fun F0 H0 F H σ s w e Dn k => by
  obtain ⟨p, us, h1, h2, h3, h4, h5, h6⟩ := e.own i ds hi
  refine ⟨_, h1, .inl ⟨rfl, us, SqL.of h5⟩, h H0 F H σ w e _ fun x F1 H1 xd s1 w1 d1 q1 => q1 H0 F1 H1 σ w1 (e.step s1) _ fun y F' H' yd s2 w' d q => ?_⟩
  obtain ⟨n, rfl, n0, n1, hl, q⟩ := q
  cases d1
  have s' := s1.trans s2 w1
  have h5' := s'.keep p _ h4 h5
  have h3' := s'.out p h3 (fun z => by rw [h5] at z; cases z)
  refine ⟨p, us, n, y, rfl, rfl, h5', by rw [h6.len]; exact Nat.lt_of_lt_of_le hl (by decide), n0, by omega, ?_⟩
  have hu := h6.up s'.ex
  exact k.nx σ F' _ _ s'.ex ((s.trans s' w).turn h2) (w'.turn h3' h4) ((e.step s').turn hi h1 (((hu.take _).app (.one d)).app (hu.drop _)) h3') q
theorem wps_clear {i : Nat} {ds : List D} (hi : E[i]? = some (.o ds)) (h : P.nx (E.set i (.o []))) : wps K b (tDrop (tBM0 K "list" rClear (tVar i))) E P := fun F0 H0 F H σ s w e Dn k => by
  obtain ⟨p, us, h1, h2, h3, h4, h5, h6⟩ := e.own i ds hi
  refine ⟨_, h1, .inl ⟨rfl, us, SqL.of h5⟩, p, us, rfl, rfl, h5, ?_⟩
  exact k.nx σ F _ _ (Ex.refl _) (s.turn h2) (w.turn h3 h4) (e.turn hi h1 .nil h3) h
/-- xs[i] = e -/
theorem wps_setL {i : Nat} {ds : List D} (hi : E[i]? = some (.o ds)) (h : wpe K b te E fun y => wpe K b tb E fun x => ∃ (n : Int) (j : Nat), x = .int n ∧ ixN ds.length n = some j ∧ P.nx (E.set i (.o (ds.set j y)))) :
    wps K b (tAsg te (gSub (tVar i) tb rSetL)) E P := fun F0 H0 F H σ s w e Dn k => by
  obtain ⟨p, us, h1, h2, h3, h4, h5, h6⟩ := e.own i ds hi
  refine h H0 F H σ w e _ fun y F1 H1 yd s1 w1 d1 q1 => ⟨_, h1, q1 H0 F1 H1 σ w1 (e.step s1) _ fun x F' H' xd s2 w' d q => ?_⟩
  obtain ⟨n, j, rfl, hj, q⟩ := q
  cases d
  have s' := s1.trans s2 w1
  have h5' := s'.keep p _ h4 h5
  have h3' := s'.out p h3 (fun z => by rw [h5] at z; cases z)
  have hu := h6.up s'.ex
  refine ⟨p, us, n, j, rfl, rfl, h5', by rw [h6.len]; exact hj, ?_⟩
  exact k.nx σ F' _ _ s'.ex ((s.trans s' w).turn h2) (w'.turn h3' h4) ((e.step s').turn hi h1 (hu.set (d1.up s2.ex) j) h3') q
/-- xs[e] of an own list -/
theorem wpe_ixo {i : Nat} {ds : List D} (hi : E[i]? = some (.o ds)) (h : wpe K b tb E fun x => ∃ (n : Int) (d : D), x = .int n ∧ atI ds n = some d ∧ Φ d) : wpe K b (tOp (rIxL K) (tVar i) tb) E Φ := fun H0 F H σ w e Q k => by
  obtain ⟨p, us, h1, h2, h3, h4, h5, h6⟩ := e.own i ds hi
  refine ⟨_, h1, h H0 F H σ w e _ fun x F' H' xd s' w' d q => ?_⟩
  obtain ⟨n, z, rfl, hz, q⟩ := q
  cases d
  obtain ⟨y, e1, dy⟩ := atI_dv (h6.up s'.ex) hz
  exact ⟨p, us, n, y, rfl, rfl, SqL.of (s'.keep p _ h4 h5), e1, k y F' H' z s' w' dy q⟩
/-- plain: no address -/
def D.sc : D → Prop
  | .non => True | .bl _ => True | .int _ => True | .str _ => True | _ => False
theorem Dv.sc {F G : Hp} {v : V} {x : D} (h : Dv K b F v x) (s : x.sc) : Dv K b G v x := by
  cases h with
  | non => exact .non
  | bl _ => exact .bl _
  | int _ => exact .int _
  | str _ => exact .str _
  | _ => exact s.elim
/-- an own list lent out while an expression runs that ends in a plain value -/
theorem lend {H0 F H : Hp} {σ : L2.St} (i : Nat) {ds : List D} (hi : E[i]? = some (.o ds)) (w : Wd K b F H) (e : EnvD K b H0 F H σ E) :
    ∃ G, Wd K b G H ∧ EnvD K b H0 G H σ (E.set i (.d (.lst ds))) ∧ ∀ G' H', Step b G H G' H' → Wd K b G' H' → ∃ F', Step b F H F' H' ∧ Wd K b F' H' := by
  obtain ⟨p, us, h1, h2, h3, h4, h5, h6⟩ := e.own i ds hi
  refine ⟨upd F p (.lst us), w.frz h3 h5 h4, e.frz hi h1 h3 h6, fun G' H' s w' => ⟨fun a => if a = p then none else G' a, ⟨fun a o q => ?_, s.keep, fun a e1 e2 => ?_⟩, fun a o q => ?_, fun a c hb => ?_⟩⟩
  · show (if a = p then none else G' a) = some o
    rw [if_neg (ne_of_none q h3)]
    exact s.ex a o (by rw [upd_ne (ne_of_none q h3)]; exact q)
  · show (if a = p then none else G' a) = none
    by_cases ha : a = p
    · rw [if_pos ha]
    · rw [if_neg ha]; exact s.out a (by rw [upd_ne ha]; exact e1) e2
  · have q' : (if a = p then none else G' a) = some o := q
    by_cases ha : a = p
    · rw [if_pos ha] at q'; cases q'
    · rw [if_neg ha] at q'; exact w'.ex a o q'
  · have B := w'.bag a c hb
    have A := w.bag a c hb
    obtain ⟨ns, s1, s2⟩ := A.cell
    refine ⟨?_, B.bag, ⟨ns, exL (fun a o q => ?_) s1, s2⟩⟩
    · show (if a = p then none else G' a) = none
      by_cases ha : a = p
      · rw [if_pos ha]
      · rw [if_neg ha]; exact B.out
    · show (if a = p then none else G' a) = some o
      rw [if_neg (ne_of_none q h3)]
      exact s.ex a o (by rw [upd_ne (ne_of_none q h3)]; exact q)
theorem wpe_lend (i : Nat) {ds : List D} (hi : E[i]? = some (.o ds)) (h : wpe K b te (E.set i (.d (.lst ds))) fun x => x.sc ∧ Φ x) : wpe K b te E Φ := fun H0 F H σ w e Q k => by
  obtain ⟨G, w1, e1, back⟩ := lend i hi w e
  refine h H0 G H σ w1 e1 Q fun v G' H' x s w' d q => ?_
  obtain ⟨F', s2, w2⟩ := back G' H' s w'
  exact k v F' H' x s2 w2 (d.sc q.1) q.2
theorem wpt_lend {t : TT} {Ψ : Bool → Prop} (i : Nat) {ds : List D} (hi : E[i]? = some (.o ds)) (h : wpt K b t (E.set i (.d (.lst ds))) Ψ) : wpt K b t E Ψ := fun H0 F H σ w e Q k => by
  obtain ⟨G, w1, e1, back⟩ := lend i hi w e
  refine h H0 G H σ w1 e1 Q fun c G' H' s w' q => ?_
  obtain ⟨F', s2, w2⟩ := back G' H' s w'
  exact k c F' H' s2 w2 q
/-! a def's body from its start -/
def startE (n : Nat) (ds : List D) : Env' := ds.map En.d ++ List.replicate (n - ds.length) .u
theorem envD_start {H0 F H : Hp} {N : List Str} {vs : List V} {ds : List D} (d : DvA K b F vs ds) : EnvD K b H0 F H (L2.start N vs) (startE N.length ds) := by
  refine ⟨by unfold L2.start startE; rw [List.length_append, List.length_append, List.length_map, List.length_map, List.length_replicate, List.length_replicate, d.len], fun i x h => ?_, fun i es h => ?_, fun i j es fs p h => ?_⟩
  · unfold startE at h
    by_cases hi : i < ds.length
    · rw [List.getElem?_append_left (by simpa using hi), List.getElem?_map] at h
      cases q : ds[i]? with
      | none => rw [q] at h; cases h
      | some y =>
        rw [q] at h
        cases h
        obtain ⟨v, h1, h2⟩ := d.get q
        refine ⟨v, ?_, h2⟩
        unfold L2.start
        rw [List.getElem?_append_left (by rw [List.length_map, d.len]; exact hi), List.getElem?_map, h1]
        rfl
    · rw [List.getElem?_append_right (by simpa using hi), List.getElem?_replicate] at h
      split at h <;> cases h
  · unfold startE at h
    by_cases hi : i < ds.length
    · rw [List.getElem?_append_left (by simpa using hi), List.getElem?_map] at h
      cases q : ds[i]? with
      | none => rw [q] at h; cases h
      | some y => rw [q] at h; cases h
    · rw [List.getElem?_append_right (by simpa using hi), List.getElem?_replicate] at h
      split at h <;> cases h
  · unfold startE at h
    by_cases hi : i < ds.length
    · rw [List.getElem?_append_left (by simpa using hi), List.getElem?_map] at h
      cases q : ds[i]? with
      | none => rw [q] at h; cases h
      | some y => rw [q] at h; cases h
    · rw [List.getElem?_append_right (by simpa using hi), List.getElem?_replicate] at h
      split at h <;> cases h
theorem run_d {F H : Hp} {N : List Str} {vs : List V} {ds : List D} {Q : VK} {post : D → Prop} (w : Wd K b F H) (d : DvA K b F vs ds) (h : wps K b t (startE N.length ds) { nx := fun _ => post .non, rt := post, rl := fun es => post (.lst es) })
    (q : ∀ v F' H' x, Step b F H F' H' → Wd K b F' H' → Dv K b F' v x → post x → Q v H') : t { nx := fun _ H' => Q .non H', rt := Q } (L2.start N vs) H :=
  h F H F H (L2.start N vs) .refl w (envD_start d) _ ⟨fun σ F' H' E _ s w' e p => q _ F' H' _ s w' .non p, fun v F' H' x s w' dv p => q v F' H' x s w' dv p, fun p us F' H' es s w' n0 n1 nb n2 dv z => by
      refine q _ (upd F' p (.lst us)) H' _ ⟨s.ex.trans (Ex.new n1), s.keep, fun a e1 e2 => ?_⟩ (w'.frz n1 n2 nb) (.lst upd_same (dv.up (Ex.new n1))) z
      rw [upd_ne (show a ≠ p from fun z => e2 (by rw [z]; exact n0))]
      exact s.out a e1 e2, fun _ _ _ _ _ _ _ _ z => z.elim, fun _ _ _ _ _ _ _ _ z => z.elim⟩
theorem run_l {F H : Hp} {N : List Str} {vs : List V} {ds : List D} {Q : VK} {post : List D → Prop} (w : Wd K b F H) (d : DvA K b F vs ds) (h : wps K b t (startE N.length ds) { nx := fun _ => False, rt := fun _ => False, rl := post })
    (q : ∀ p us F' H' es, Step b F H F' H' → Wd K b F' H' → H p = none → F' p = none → H' p = some (.lst us) → DvA K b F' us es → post es → Q (.ref p) H') : t { nx := fun _ H' => Q .non H', rt := Q } (L2.start N vs) H :=
  h F H F H (L2.start N vs) .refl w (envD_start d) _ ⟨fun _ _ _ _ _ _ _ _ z => z.elim, fun _ _ _ _ _ _ _ z => z.elim, fun p us F' H' es s w' n0 n1 nb n2 dv z => q p us F' H' es s w' n0 n1 n2 dv z, fun _ _ _ _ _ _ _ _ z => z.elim, fun _ _ _ _ _ _ _ _ z => z.elim⟩
end
end DL

namespace DL
open PySem PySem.Spec PyProof.Rows L2
section
variable {K : PySem.W.Frag} {b : Bg} {E : Env'} {ta tb te : TE} {t : TS} {P : Po} {Φ : D → Prop}
/-! subscripts and slices -/
theorem rd_ixl {ds : List D} {i : Int} {d : D} (e : atI ds i = some d) (q : Φ d) : rd2 K b (rIx K) (.lst ds) (.int i) Φ := fun F H v u w d1 d2 Q k => .inl (rd_ixL e q F H v u w d1 d2 Q k)
theorem rd_ixt {ds : List D} {i : Int} {d : D} (e : atI ds i = some d) (q : Φ d) : rd2 K b (rIx K) (.tup ds) (.int i) Φ := fun F H v u w d1 d2 Q k => .inr (.inl (rd_ixT e q F H v u w d1 d2 Q k))
/-- xs[e] of an own list -/
theorem wpe_ixo' {i : Nat} {ds : List D} (hi : E[i]? = some (.o ds)) (h : wpe K b tb E fun x => ∃ (n : Int) (d : D), x = .int n ∧ atI ds n = some d ∧ Φ d) : wpe K b (tOp (rIx K) (tVar i) tb) E Φ := fun H0 F H σ w e Q k => by
  obtain ⟨p, us, h1, h2, h3, h4, h5, h6⟩ := e.own i ds hi
  refine ⟨_, h1, h H0 F H σ w e _ fun x F' H' xd s' w' d q => ?_⟩
  obtain ⟨n, z, rfl, hz, q⟩ := q
  cases d
  obtain ⟨y, e1, dy⟩ := atI_dv (h6.up s'.ex) hz
  exact .inl ⟨p, us, n, y, rfl, rfl, SqL.of (s'.keep p _ h4 h5), e1, k y F' H' z s' w' dy q⟩
def wpo (K : PySem.W.Frag) (b : Bg) (t : TO) (E : Env') (Φ : Option Int → Prop) : Prop := ∀ H0 F H σ, Wd K b F H → EnvD K b H0 F H σ E →
  ∀ Q : Option Int → Hp → Prop, (∀ c F' H', Step b F H F' H' → Wd K b F' H' → Φ c → Q c H') → t σ H Q
theorem wpo_none {Φ : Option Int → Prop} (q : Φ none) : wpo K b tNoPart E Φ := fun H0 F H σ w e Q k => k _ F H .refl w q
theorem wpo_some {Φ : Option Int → Prop} (h : wpe K b te E fun x => ∃ n, x = .int n ∧ Φ (some n)) : wpo K b (tPart te) E Φ := fun H0 F H σ w e Q k =>
  h H0 F H σ w e _ fun v F1 H1 x s1 w1 d1 p1 => by
    obtain ⟨n, rfl, q⟩ := p1
    cases d1
    exact ⟨n, rfl, k _ F1 H1 s1 w1 q⟩
def cutD (ds : List D) (lo hi : Option Int) : List D := (ds.drop (HT.sIx ds.length 0 lo)).take (HT.sIx ds.length ds.length hi - HT.sIx ds.length 0 lo)
theorem dva_cut {F : Hp} {vs : List V} {ds : List D} {lo hi : Option Int} (h : DvA K b F vs ds) : DvA K b F (cutV vs lo hi) (cutD ds lo hi) := by
  unfold cutV cutD
  rw [h.len]
  exact (h.drop _).take _
theorem wpl_sl {tl th : TO} {Φ : List D → Prop} (h : wpe K b te E fun x => wpo K b tl E fun lo => wpo K b th E fun hi => ∃ ds, x = .lst ds ∧ Φ (cutD ds lo hi)) : wpl K b (tSl (rSlL K) te tl th) E Φ := fun H0 F H σ w e Q k =>
  h H0 F H σ w e _ fun v F1 H1 x s1 w1 d1 p1 => p1 H0 F1 H1 σ w1 (e.step s1) _ fun lo F2 H2 s2 w2 p2 => p2 H0 F2 H2 σ w2 ((e.step s1).step s2) _ fun hi F3 H3 s3 w3 p3 => by
    obtain ⟨ds, rfl, q⟩ := p3
    cases d1 with
    | lst s a =>
      have s13 := (s1.trans s2 w1).trans s3 w2
      have x13 := s2.ex.trans s3.ex
      refine ⟨_, _, rfl, SqL.of (w3.ex _ _ (x13 _ _ s)), fun p hp => ?_⟩
      obtain ⟨w4, s4⟩ := w3.newO (o := .lst _) hp
      exact k p _ F3 _ _ (s13.trans s4 w3) w4 (s13.fresh w3 hp) (w3.outN hp) upd_same (dva_cut (a.up x13)) q
theorem wpe_slT {tl th : TO} (h : wpe K b te E fun x => wpo K b tl E fun lo => wpo K b th E fun hi => ∃ ds, x = .tup ds ∧ ¬ (HT.sIx ds.length 0 lo = 0 ∧ HT.sIx ds.length ds.length hi = ds.length) ∧ Φ (.tup (cutD ds lo hi))) : wpe K b (tSl (rSlT K) te tl th) E Φ := fun H0 F H σ w e Q k =>
  h H0 F H σ w e _ fun v F1 H1 x s1 w1 d1 p1 => p1 H0 F1 H1 σ w1 (e.step s1) _ fun lo F2 H2 s2 w2 p2 => p2 H0 F2 H2 σ w2 ((e.step s1).step s2) _ fun hi F3 H3 s3 w3 p3 => by
    obtain ⟨ds, rfl, hn, q⟩ := p3
    cases d1 with
    | tup s a =>
      have s13 := (s1.trans s2 w1).trans s3 w2
      have x13 := s2.ex.trans s3.ex
      refine ⟨_, _, rfl, exT (x13.trans w3.ex) s, by rw [a.len]; exact hn, fun p hp => ?_⟩
      obtain ⟨w4, s4⟩ := w3.newD (o := .tup _) hp
      exact k _ _ _ _ (s13.trans s4 w3) w4 (.tup (.inl (.inl upd_same)) (dva_cut (a.up (x13.trans s4.ex)))) q
theorem wpl_rev {Φ : List D → Prop} (h : wpe K b te E fun x => ∃ ds, x = .lst ds ∧ Φ ds.reverse) : wpl K b (tRevL K te) E Φ := fun H0 F H σ w e Q k =>
  h H0 F H σ w e _ fun v F1 H1 x s1 w1 d1 p1 => by
    obtain ⟨ds, rfl, q⟩ := p1
    cases d1 with
    | lst s a =>
      refine ⟨_, _, rfl, SqL.of (w1.ex _ _ s), fun p hp => ?_⟩
      obtain ⟨w4, s4⟩ := w1.newO (o := .lst _) hp
      exact k p _ F1 _ _ (s1.trans s4 w1) w4 (s1.fresh w1 hp) (w1.outN hp) upd_same a.rev q
theorem rd_isB {x y : Bool} (q : Φ (.bl (decide (x = y)))) : rd2 K b rIsB (.bl x) (.bl y) Φ := fun F H v u w d1 d2 Q k => by
  cases d1; cases d2; exact ⟨x, y, rfl, rfl, k _ F H _ .refl w (.bl _) q⟩
/-- the law's own bag -/
def preTake (b : Bg) (ds : List D) : Prop := b.isSome = true ∧ ∃ n : Int, ds = [.bag, .int n] ∧ 0 < n ∧ n ≤ 4000000000000000000
def postTake (ds : List D) (x : D) : Prop := ∃ n v : Int, ds = [.bag, .int n] ∧ x = .int v ∧ 0 ≤ v ∧ v < n
def spTake (K : PySem.W.Frag) : Sp := Sd K 2 preTake postTake
theorem wpe_take {EE : XK} (hb : b.isSome = true) (h : wpe K b ta E fun x => x = .bag ∧ wpe K b tb E fun y => ∃ n : Int, y = .int n ∧ 0 < n ∧ n ≤ 4000000000000000000 ∧ ∀ v, 0 ≤ v → v < n → Φ (.int v)) :
    wpe K b (tCall (spTake K) [] EE (tCons ta (tCons tb tNil))) E Φ := by
  refine wpe_call (wpa_cons (h.mono fun x hx => wpa_cons (hx.2.mono fun y hy => wpa_nil ?_)))
  obtain ⟨n, rfl, h1, h2, q⟩ := hy
  obtain ⟨rfl, _⟩ := hx
  refine ⟨rfl, ⟨hb, n, rfl, h1, h2⟩, fun z hz => ?_⟩
  obtain ⟨n', v, e, rfl, h3, h4⟩ := hz
  cases e
  exact q v h3 h4
/-! the law's start -/
def spBag (K : PySem.W.Frag) : Sp := fun vs H Q _ => ∃ (a : Addr) (ns : List Int), vs = [.ref a] ∧ SqL K H a (ns.map V.int) ∧ ns.length ≤ 63 ∧
  ∀ p c F' H', Ex H F' → Wd K (some (p, c)) F' H' → H p = none → Q (.ref p) H'
def spLaw (K : PySem.W.Frag) : Sp := fun vs H Q _ => ∃ (a : Addr) (ns : List Int), vs = [.ref a] ∧ SqL K H a (ns.map V.int) ∧ ns.length ≤ 63 ∧ ∀ H', Q (.bl true) H'
theorem law_run {H : Hp} {N : List Str} {vs : List V} {Q : VK} {EE E2 : XK} (hs : spLaw K vs H Q EE) (hN : 2 ≤ N.length) (h : ∀ p c, wps K (some (p, c)) t (.u :: .d .bag :: List.replicate (N.length - 2) .u) { nx := fun _ => False, rt := fun x => x = .bl true }) :
    tSeq (tAsg (tCall (spBag K) [] E2 (tCons (tVar 0) tNil)) (gName 1)) t { nx := fun _ H' => Q .non H', rt := Q } (L2.start N vs) H := by
  obtain ⟨a, ns, rfl, hS, hl, q⟩ := hs
  refine ⟨.ref a, ?_, ?_⟩
  · unfold L2.start; rfl
  show spBag K [V.ref a] H (fun x H1 => t { nx := fun _ H' => Q .non H', rt := Q } ((L2.start N [V.ref a]).set 1 (some x)) H1) E2
  refine ⟨a, ns, rfl, hS, hl, fun p c F' H' x w hp => ?_⟩
  refine h p c F' H' F' H' _ .refl w ?_ _ ⟨fun _ _ _ _ _ _ _ _ z => z.elim, fun v F2 H2 y s2 w2 d e => ?_, fun _ _ _ _ _ _ _ _ _ _ _ _ z => z.elim, fun _ _ _ _ _ _ _ _ z => z.elim, fun _ _ _ _ _ _ _ _ z => z.elim⟩
  · have hN' : N.length - 1 = (N.length - 2) + 1 := by omega
    have hst : (L2.start N [V.ref a]).set 1 (some (.ref p)) = some (.ref a) :: some (.ref p) :: List.replicate (N.length - 2) none := by
      unfold L2.start
      show ((some (V.ref a) :: ([] ++ List.replicate (N.length - 1) none)).set 1 (some (V.ref p)) : L2.St) = _
      rw [hN', List.nil_append, List.replicate_succ]
      rfl
    rw [hst]
    refine ⟨by simp, fun i y e => ?_, fun i ds e => ?_, fun i j ds es r e => ?_⟩
    · match i, e with
      | 0, e => cases e
      | 1, e => cases e; exact ⟨_, rfl, .bag rfl⟩
      | i + 2, e =>
        have e' : (List.replicate (N.length - 2) En.u)[i]? = some (.d y) := e
        rw [List.getElem?_replicate] at e'
        split at e' <;> cases e'
    · match i, e with
      | 0, e => cases e
      | 1, e => cases e
      | i + 2, e =>
        have e' : (List.replicate (N.length - 2) En.u)[i]? = some (.o ds) := e
        rw [List.getElem?_replicate] at e'
        split at e' <;> cases e'
    · match i, e with
      | 0, e => cases e
      | 1, e => cases e
      | i + 2, e =>
        have e' : (List.replicate (N.length - 2) En.u)[i]? = some (.o ds) := e
        rw [List.getElem?_replicate] at e'
        split at e' <;> cases e'
  · have e' : y = .bl true := e
    subst e'
    cases d
    exact q _
end
/-! the rules, the written part told -/
section
variable {X : Cx} {K : PySem.W.Frag}
theorem kIx (h : X.K = K := by rfl) : IxR X (rIx K) := h ▸ ix_seq
theorem kLen (h : X.K = K := by rfl) : CallR X (.builtin "len") (rLen K) := h ▸ call_lenS
theorem kList (h : X.K = K := by rfl) : CallR X (.type "list") (rList K) := h ▸ call_listS
theorem kTuple (h : X.K = K := by rfl) : CallR X (.type "tuple") (rTuple K) := h ▸ call_tupleS
theorem kAll (hc : X.calm = true := by rfl) (h : X.K = K := by rfl) : CallR X (.builtin "all") (rAll K) := h ▸ cr_all hc
theorem kAny (hc : X.calm = true := by rfl) (h : X.K = K := by rfl) : CallR X (.builtin "any") (rAny K) := h ▸ cr_any hc
theorem kSum (hc : X.calm = true := by rfl) (h : X.K = K := by rfl) : CallR X (.builtin "sum") (rSum K) := h ▸ cr_sum hc
theorem kSorted (hu : X.A.units + 100 < cLine) (h : X.K = K := by rfl) : CallR X (.builtin "sorted") (rSrt K) := h ▸ call_srt hu
theorem kRepr (hg : X.A.guards = some []) (hu : X.A.units + 100 < cLine) (h : X.K = K := by rfl) : CallR X (.builtin "repr") (rRepr K) := h ▸ call_reprD hg hu
theorem kEq (hu : X.A.units + 100 < cLine) (h : X.K = K := by rfl) : OpR X (compareOp .Eq) (rEqD K) := h ▸ op_eqD (by omega)
theorem kNe (hu : X.A.units + 100 < cLine) (h : X.K = K := by rfl) : OpR X (compareOp .NotEq) (rNeD K) := h ▸ op_neD (by omega)
theorem kIn (hu : X.A.units + 100 < cLine) (h : X.K = K := by rfl) : OpR X (compareOp .In) (rInD K) := h ▸ op_inD (by omega)
theorem kNotIn (hu : X.A.units + 100 < cLine) (h : X.K = K := by rfl) : OpR X (compareOp .NotIn) (rNotInD K) := h ▸ op_notInD (by omega)
theorem kSlL (h : X.K = K := by rfl) : SlR X (rSlL K) := h ▸ sl_list
theorem kSlT (h : X.K = K := by rfl) : SlR X (rSlT K) := h ▸ sl_tup
theorem kCatT (h : X.K = K := by rfl) : OpR X (binaryOp .Add) (rCatT K) := h ▸ op_catT
theorem room100 {A : Around} {k : Nat} (hr : Room k A) : A.units + 100 < cLine := by have := hr.un; omega
end
end DL

namespace DL
open PySem PySem.Spec PyProof.Rows L2
def rAbs : List V → Hp → VK → Prop := fun xs H Q => ∃ i, xs = [.int i] ∧ Q (.int (if i < 0 then -i else i)) H
def rMax2 : List V → Hp → VK → Prop := fun xs H Q => ∃ i j, xs = [.int i, .int j] ∧ Q (.int (if j > i then j else i)) H
def rMin2 : List V → Hp → VK → Prop := fun xs H Q => ∃ i j, xs = [.int i, .int j] ∧ Q (.int (if j < i then j else i)) H
def rInt1 : List V → Hp → VK → Prop := fun xs H Q => (∃ i, xs = [.int i] ∧ Q (.int i) H) ∨ ∃ k, xs = [.bl k] ∧ Q (.int (if k then 1 else 0)) H
def rSl (K : PySem.W.Frag) : V → Option Int → Option Int → Hp → VK → Prop := fun x lo hi H Q => rSlL K x lo hi H Q ∨ rSlT K x lo hi H Q
section
variable {X : Cx} {K : PySem.W.Frag}
theorem kAbs : CallR X (.builtin "abs") rAbs := call_abs
theorem kMax2 (hc : X.calm = true := by rfl) : CallR X (.builtin "max") rMax2 := call_max2 hc
theorem kMin2 (hc : X.calm = true := by rfl) : CallR X (.builtin "min") rMin2 := call_min2 hc
theorem kInt1 : CallR X (.type "int") rInt1 := call_int1
theorem kSl (h : X.K = K := by rfl) : SlR X (rSl K) := fun pins s σ H x v vl vu lo hi sl Q I rx hs pl pu q => by
  rcases q with q | q
  · exact kSlL (K := K) h pins s σ H x v vl vu lo hi sl Q I rx hs pl pu q
  · exact kSlT (K := K) h pins s σ H x v vl vu lo hi sl Q I rx hs pl pu q
theorem kGet (h : X.K = K := by rfl) : PGet X (rIxL K) := h ▸ get_list
theorem pe_revK {e : Expr} {te : TE} {k : Nat} {p1 p2 p3 pos : Pos} (he : PE X e te) (h : X.K = K := by rfl) : PE X (.Subscript e (.Slice none none (some (.UnaryOp .USub (.Constant (.int 1) k p1) p2)) p3) pos) (tRevL K te) := h ▸ pe_revL he
theorem bt_len : bootBuiltins "len" = some (.builtin "len") := by decide +kernel
theorem bt_abs : bootBuiltins "abs" = some (.builtin "abs") := by decide +kernel
theorem bt_all : bootBuiltins "all" = some (.builtin "all") := by decide +kernel
theorem bt_any : bootBuiltins "any" = some (.builtin "any") := by decide +kernel
theorem bt_sum : bootBuiltins "sum" = some (.builtin "sum") := by decide +kernel
theorem bt_max : bootBuiltins "max" = some (.builtin "max") := by decide +kernel
theorem bt_min : bootBuiltins "min" = some (.builtin "min") := by decide +kernel
theorem bt_sorted : bootBuiltins "sorted" = some (.builtin "sorted") := by decide +kernel
theorem bt_repr : bootBuiltins "repr" = some (.builtin "repr") := by decide +kernel
theorem bt_list : bootBuiltins "list" = some (.type "list") := by decide +kernel
theorem bt_tuple : bootBuiltins "tuple" = some (.type "tuple") := by decide +kernel
theorem bt_int : bootBuiltins "int" = some (.type "int") := by decide +kernel
end
section
variable {K : PySem.W.Frag} {b : Bg} {E : Env'} {te : TE} {Φ : D → Prop}
theorem rd_eqS {x y : Str} (q : Φ (.bl (decide (V.str x = V.str y)))) : rd2 K b rEq (.str x) (.str y) Φ := fun F H v u w d1 d2 Q k => by
  cases d1; cases d2; exact ⟨rfl, k _ F H _ .refl w (.bl _) q⟩
theorem rcAbs {i : Int} (q : Φ (.int (if i < 0 then -i else i))) : rdc K b rAbs [.int i] Φ := rc_abs q
theorem rcMax {i j : Int} (q : Φ (.int (if j > i then j else i))) : rdc K b rMax2 [.int i, .int j] Φ := rc_max q
theorem rcMin {i j : Int} (q : Φ (.int (if j < i then j else i))) : rdc K b rMin2 [.int i, .int j] Φ := rc_min q
theorem rcIntB {c : Bool} (q : Φ (.int (if c then 1 else 0))) : rdc K b rInt1 [.bl c] Φ := fun F H vs w d Q k => by
  cases d with | cons d1 d => (cases d; cases d1; exact .inr ⟨c, rfl, k _ F H _ .refl w (.int _) q⟩)
theorem wpl_slL {tl th : TO} {Φ : List D → Prop} (h : wpe K b te E fun x => wpo K b tl E fun lo => wpo K b th E fun hi => ∃ ds, x = .lst ds ∧ Φ (cutD ds lo hi)) : wpl K b (tSl (rSl K) te tl th) E Φ := fun H0 F H σ w e Q k =>
  h H0 F H σ w e _ fun v F1 H1 x s1 w1 d1 p1 => p1 H0 F1 H1 σ w1 (e.step s1) _ fun lo F2 H2 s2 w2 p2 => p2 H0 F2 H2 σ w2 ((e.step s1).step s2) _ fun hi F3 H3 s3 w3 p3 => by
    obtain ⟨ds, rfl, q⟩ := p3
    cases d1 with
    | lst s a =>
      have s13 := (s1.trans s2 w1).trans s3 w2
      have x13 := s2.ex.trans s3.ex
      refine .inl ⟨_, _, rfl, SqL.of (w3.ex _ _ (x13 _ _ s)), fun p hp => ?_⟩
      obtain ⟨w4, s4⟩ := w3.newO (o := .lst _) hp
      exact k p _ F3 _ _ (s13.trans s4 w3) w4 (s13.fresh w3 hp) (w3.outN hp) upd_same (dva_cut (a.up x13)) q
theorem wpe_slTu {tl th : TO} (h : wpe K b te E fun x => wpo K b tl E fun lo => wpo K b th E fun hi => ∃ ds, x = .tup ds ∧ ¬ (HT.sIx ds.length 0 lo = 0 ∧ HT.sIx ds.length ds.length hi = ds.length) ∧ Φ (.tup (cutD ds lo hi))) : wpe K b (tSl (rSl K) te tl th) E Φ := fun H0 F H σ w e Q k =>
  h H0 F H σ w e _ fun v F1 H1 x s1 w1 d1 p1 => p1 H0 F1 H1 σ w1 (e.step s1) _ fun lo F2 H2 s2 w2 p2 => p2 H0 F2 H2 σ w2 ((e.step s1).step s2) _ fun hi F3 H3 s3 w3 p3 => by
    obtain ⟨ds, rfl, hn, q⟩ := p3
    cases d1 with
    | tup s a =>
      have s13 := (s1.trans s2 w1).trans s3 w2
      have x13 := s2.ex.trans s3.ex
      refine .inr ⟨_, _, rfl, exT (x13.trans w3.ex) s, by rw [a.len]; exact hn, fun p hp => ?_⟩
      obtain ⟨w4, s4⟩ := w3.newD (o := .tup _) hp
      exact k _ _ _ _ (s13.trans s4 w3) w4 (.tup (.inl (.inl upd_same)) (dva_cut (a.up (x13.trans s4.ex)))) q
end
end DL

namespace DL
open PySem PySem.Spec PyProof.Rows L2
theorem ln_of {K : PySem.W.Frag} {n : Nat} {pre : Bg → List D → Prop} {post : List D → D → Prop} {vs : List V} {H : Hp} {Q : VK} {EE : XK} (h : Sd K n pre post vs H Q EE) : vs.length = n := by
  obtain ⟨_, _, _, h, _⟩ := h
  exact h
theorem r_of {K : PySem.W.Frag} {n : Nat} {pre : Bg → List D → Prop} {post : List D → D → Prop} {vs : List V} {H : Hp} {Q : VK} {EE : XK} {N : List Str} {t : TS}
    (w : ∀ b ds, ds.length = n → pre b ds → wps K b t (startE N.length ds) { nx := fun _ => post ds .non, rt := post ds, rl := fun es => post ds (.lst es) }) (h : Sd K n pre post vs H Q EE) :
    t { nx := fun _ H' => Q .non H', rt := Q } (L2.start N vs) H := by
  obtain ⟨b, F, ds, hl, hw, hd, hp, q⟩ := h
  exact run_d (post := post ds) hw hd (w b ds (hd.len.symm.trans hl) hp) q
theorem ll_of {K : PySem.W.Frag} {n : Nat} {pre : Bg → List D → Prop} {post : List D → List D → Prop} {vs : List V} {H : Hp} {Q : VK} {EE : XK} (h : Sl K n pre post vs H Q EE) : vs.length = n := by
  obtain ⟨_, _, _, h, _⟩ := h
  exact h
theorem rl_of {K : PySem.W.Frag} {n : Nat} {pre : Bg → List D → Prop} {post : List D → List D → Prop} {vs : List V} {H : Hp} {Q : VK} {EE : XK} {N : List Str} {t : TS}
    (w : ∀ b ds, ds.length = n → pre b ds → wps K b t (startE N.length ds) { nx := fun _ => False, rt := fun _ => False, rl := post ds }) (h : Sl K n pre post vs H Q EE) :
    t { nx := fun _ H' => Q .non H', rt := Q } (L2.start N vs) H := by
  obtain ⟨b, F, ds, hl, hw, hd, hp, q⟩ := h
  exact run_l (post := post ds) hw hd (w b ds (hd.len.symm.trans hl) hp) q
theorem len_le {n m : Nat} (h : Nat.ble n m = true) : n ≤ m := Nat.le_of_ble_eq_true h
theorem ifB {c : Bool} {p q : Prop} (h1 : c = true → p) (h2 : c = false → q) : if c = true then p else q := by
  cases c with
  | true => exact (if_pos rfl : (if true = true then p else q) = p).symm ▸ h1 rfl
  | false => exact (if_neg Bool.false_ne_true : (if false = true then p else q) = q).symm ▸ h2 rfl
theorem ifT {p q : Prop} (h : p) : if true = true then p else q := ifB (fun _ => h) fun z => Bool.noConfusion z
theorem ifF {p q : Prop} (h : q) : if false = true then p else q := ifB (fun z => Bool.noConfusion z) fun _ => h
/-! the law's bag, made -/
def tBag (K : PySem.W.Frag) : TS := tRet (tLst (tCons (tC (.int 0)) (tCons (tC (.int 1234567891)) (tCons (tC (.int 0)) (tCons (tLc (iList K (tSl (rSl K) (tVar 0) tNoPart (tPart (tC (.int 63))))) (gName 1) tYes (tCB rAbs (tCons (tVar 1) tNil)) [1]) tNil)))))
theorem cut_map (ns : List Int) (lo hi : Option Int) : ∃ ms : List Int, cutV (ns.map V.int) lo hi = ms.map V.int ∧ ms.length ≤ ns.length := by
  refine ⟨((ns.drop (HT.sIx ns.length 0 lo)).take (HT.sIx ns.length ns.length hi - HT.sIx ns.length 0 lo)), ?_, ?_⟩
  · unfold cutV
    rw [List.length_map, List.map_take, List.map_drop]
  · rw [List.length_take, List.length_drop]; omega
theorem r_bag {K : PySem.W.Frag} {vs : List V} {H : Hp} {Q : VK} {EE : XK} (h : spBag K vs H Q EE) : tBag K { nx := fun _ H' => Q .non H', rt := Q } (L2.start ["script", "cell"] vs) H := by
  obtain ⟨a, ns, rfl, hS, hl, q⟩ := h
  obtain ⟨ms, em, lm⟩ := cut_map ns none (some 63)
  show tBag K { nx := fun _ H' => Q .non H', rt := Q } [some (.ref a), none] H
  refine ⟨.ref a, rfl, 63, rfl, .inl ⟨a, _, rfl, hS, fun p hp => ?_⟩⟩
  rw [em]
  have x1 : Ex H (upd H p (.lst (ms.map V.int))) := Ex.new hp
  refine ⟨p, rfl, ⟨_, SqL.of upd_same⟩, fun c hc => ?_⟩
  have hcp : p ≠ c := ne_of_none upd_same hc
  refine lc_list (K := K) (a := p) (xs := ms.map V.int) (fun i H' => Ex H H' ∧ H' p = some (.lst (ms.map V.int)) ∧ ∃ ks : List Int, H' c = some (.lst (ks.map V.int)) ∧ ks.length = i ∧ ∀ k ∈ ks, 0 ≤ k)
    ⟨x1.trans (Ex.new hc), by rw [upd_ne hcp]; exact upd_same, [], upd_same, rfl, fun _ z => nomatch z⟩ (fun i H' _ pv => SqL.of pv.2.1) (fun i x H' hx pv => ?_) (fun H' pv => ?_)
  · obtain ⟨e1, e2, ks, e3, e4, e5⟩ := pv
    rw [List.getElem?_map] at hx
    cases hm : ms[i]? with
    | none => rw [hm] at hx; cases hx
    | some m =>
      rw [hm] at hx
      cases hx
      have hi : i < ms.length := (List.getElem?_eq_some_iff.mp hm).1
      refine ⟨rfl, .int m, rfl, m, rfl, ks.map V.int, e3, ?_, ?_⟩
      · rw [List.length_map, e4]; exact Nat.lt_of_lt_of_le hi (Nat.le_trans (Nat.le_trans lm hl) (by decide))
      · have nc : H c = none := by
          cases z : H c with
          | none => rfl
          | some o => rw [x1 c o z] at hc; cases hc
        refine ⟨fun b o z => by rw [upd_ne (ne_of_none z nc)]; exact e1 b o z, by rw [upd_ne hcp]; exact e2, ks ++ [if m < 0 then -m else m], ?_, by rw [List.length_append, e4]; rfl, fun k hk => ?_⟩
        · rw [upd_same, List.map_append]; rfl
        · rcases List.mem_append.mp hk with hk | hk
          · exact e5 k hk
          · have : k = if m < 0 then -m else m := by simpa using hk
            rw [this]; split <;> omega
  · obtain ⟨e1, e2, ks, e3, e4, e5⟩ := pv
    show 4 ≤ sizeLine ∧ _
    refine ⟨by decide, fun r hr => ?_⟩
    have n0 : H r = none := by
      cases z : H r with
      | none => rfl
      | some o => rw [e1 r o z] at hr; cases hr
    refine q r c H' _ e1 ⟨Ex.new hr, fun a' c' e => ?_⟩ n0
    cases e
    exact ⟨hr, ⟨0, 1234567891, 0, upd_same, by omega, by omega, by omega, by omega⟩, ⟨ks, SqL.of e3, e5⟩⟩
/-! a draw -/
def tTake (K : PySem.W.Frag) : TS :=
  (tSeq (tIfS (tTest (tOp (rEqD K) (tOp (rIx K) (tVar 0) (tC (.int 0))) (tC (.int 0))))
    (tSeq (tAsg (tC (.int 0)) (gName 2))
    (tSeq (tIfS (tTest (tOp (rI0 fun i j => .bl (decide (i < j))) (tOp (rIx K) (tVar 0) (tC (.int 2))) (tCB (rLen K) (tCons (tOp (rIx K) (tVar 0) (tC (.int 3))) tNil))))
    (tAsg (tOp (rIx K) (tOp (rIx K) (tVar 0) (tC (.int 3))) (tOp (rIx K) (tVar 0) (tC (.int 2)))) (gName 2))
    tNext)
    (tSeq (tAugS (tVar 0) (tC (.int 2)) (tC (.int 1)) (rIxL K) (ipI fun i j => i + j) rSetL)
    (tSeq (tIfS (tTest (tOp (rI0 fun i j => .bl (decide (j ≤ i))) (tVar 2) (tC (.int 1000000000000000000))))
    (tAsg (tVar 2) (gSub (tVar 0) (tC (.int 0)) rSetL))
    tNext)
    (tAsg (tOp (rI (fun _ j => 0 < j) fun i j => .int (i % j)) (tOp (rI0 fun i j => .int (i + j)) (tOp (rI0 fun i j => .int (i + j)) (tOp (rI CMul fun i j => .int (i * j)) (tOp (rIx K) (tVar 0) (tC (.int 1))) (tC (.int 48271))) (tOp (rI (fun _ j => 0 < j) fun i j => .int (i % j)) (tVar 2) (tC (.int 2147483647)))) (tOp (rI CMul fun i j => .int (i * j)) (tC (.int 7919)) (tOp (rIx K) (tVar 0) (tC (.int 2))))) (tC (.int 2147483647))) (gSub (tVar 0) (tC (.int 1)) rSetL))))))
    tNext)
    (tSeq (tIfS (tTest (tOp (rI0 fun i j => .bl (decide (j < i))) (tOp (rIx K) (tVar 0) (tC (.int 0))) (tC (.int 0))))
    (tSeq (tAsg (tOp (rI (fun _ j => 0 < j) fun i j => .int (i % j)) (tOp (rIx K) (tVar 0) (tC (.int 0))) (tVar 1)) (gName 3))
    (tSeq (tAsg (tOp (rI CDivW fun i j => .int (i / j)) (tOp (rIx K) (tVar 0) (tC (.int 0))) (tVar 1)) (gSub (tVar 0) (tC (.int 0)) rSetL))
    (tRet (tVar 3))))
    tNext)
    (tSeq (tAsg (tOp (rI (fun _ j => 0 < j) fun i j => .int (i % j)) (tOp (rI CMul fun i j => .int (i * j)) (tOp (rI0 fun i j => .int (i + j)) (tOp (rIx K) (tVar 0) (tC (.int 1))) (tC (.int 1))) (tC (.int 39373))) (tC (.int 1000000007))) (gName 4))
    (tSeq (tAsg (tOp (rI (fun _ j => 0 < j) fun i j => .int (i % j)) (tOp (rI CMul fun i j => .int (i * j)) (tOp (rI (fun _ j => 0 < j) fun i j => .int (i % j)) (tOp (rI CMul fun i j => .int (i * j)) (tVar 4) (tVar 4)) (tC (.int 998244353))) (tC (.int 30011))) (tC (.int 998244353))) (gName 5))
    (tSeq (tIfS (tTest (tOp (rI0 fun i j => .bl (decide (j < i))) (tVar 1) (tC (.int 1000000))))
    (tRet (tOp (rI (fun _ j => 0 < j) fun i j => .int (i % j)) (tOp (rI0 fun i j => .int (i + j)) (tOp (rI CMul fun i j => .int (i * j)) (tVar 5) (tC (.int 1000000007))) (tVar 4)) (tVar 1)))
    tNext)
    (tRet (tOp (rI (fun _ j => 0 < j) fun i j => .int (i % j)) (tOp (rI CDivW fun i j => .int (i / j)) (tVar 5) (tC (.int 7))) (tVar 1))))))))
section
variable {K : PySem.W.Frag}
/-- the bag at a, by its parts -/
def bagL (x y z : Int) (c : Addr) : HO := .lst [.int x, .int y, .int z, .ref c]
theorem ite_of {c : Prop} [Decidable c] {p q : Prop} (h1 : c → p) (h2 : ¬ c → q) : if c then p else q := by
  by_cases h : c
  · rw [if_pos h]; exact h1 h
  · rw [if_neg h]; exact h2 h
theorem r_take {vs : List V} {H : Hp} {Q : VK} {EE : XK} (h : spTake K vs H Q EE) : tTake K { nx := fun _ H' => Q .non H', rt := Q } (L2.start ["bag", "many", "cell", "value", "first", "second"] vs) H := by
  obtain ⟨b, F, ds, hl, hw, hd, ⟨hb, n, rfl, n0, n1⟩, q⟩ := h
  obtain ⟨v0, v1, rfl, d0, d1⟩ : ∃ v0 v1, vs = [v0, v1] ∧ Dv K b F v0 .bag ∧ Dv K b F v1 (.int n) := by
    cases hd with | cons x y => cases y with | cons x2 y2 => cases y2; exact ⟨_, _, rfl, x, x2⟩
  cases d1
  cases d0 with
  | @bag a c hbg =>
  have B := hw.bag a c hbg
  obtain ⟨x, y, z, hH, x0, y0, y1, z0⟩ := B.bag
  obtain ⟨ns, hc, hns⟩ := B.cell
  have hcH : SqL K H c (ns.map V.int) := exL hw.ex hc
  have hout : F a = none := B.out
  have ca : ∀ {G : Hp} {o : HO}, SqL K F c (ns.map V.int) := fun {G o} => hc
  -- what is known at each moment: H with other parts in the bag
  have fin : ∀ (x y z v : Int), 0 ≤ x → 0 ≤ y → y < 2147483647 → 0 ≤ z → 0 ≤ v → v < n → Q (.int v) (upd H a (bagL x y z c)) := fun x y z v hx hy hy1 hz h0 h1 =>
    q (.int v) F (upd H a (bagL x y z c)) (.int v) ⟨Ex.refl _, fun a' o nb e => by rw [upd_ne (show a' ≠ a from fun z => nb c (by rw [z]; exact hbg))]; exact e, fun a' e _ => e⟩
      ⟨fun a' o e => by rw [upd_ne (ne_of_none e hout)]; exact hw.ex a' o e, fun a' c' e => by
        rw [hbg] at e
        cases e
        exact ⟨hout, ⟨x, y, z, upd_same, hx, hy, hy1, hz⟩, ⟨ns, hc, hns⟩⟩⟩ (.int v) ⟨n, v, rfl, rfl, h0, h1⟩
  have hcU : ∀ (o : HO), SqL K (upd H a o) c (ns.map V.int) := fun o => exL (fun a' u e => by rw [upd_ne (ne_of_none e hout)]; exact hw.ex a' u e) hc
  show tTake K { nx := fun _ H' => Q .non H', rt := Q } [some (.ref a), some (.int n), none, none, none, none] H
  -- the second half, from any bag
  have tail : ∀ (x y z : Int) (s2 : Option V), 0 ≤ x → 0 ≤ y → y < 2147483647 → 0 ≤ z →
      (tSeq (tIfS (tTest (tOp (rI0 fun i j => .bl (decide (j < i))) (tOp (rIx K) (tVar 0) (tC (.int 0))) (tC (.int 0))))
    (tSeq (tAsg (tOp (rI (fun _ j => 0 < j) fun i j => .int (i % j)) (tOp (rIx K) (tVar 0) (tC (.int 0))) (tVar 1)) (gName 3))
    (tSeq (tAsg (tOp (rI CDivW fun i j => .int (i / j)) (tOp (rIx K) (tVar 0) (tC (.int 0))) (tVar 1)) (gSub (tVar 0) (tC (.int 0)) rSetL))
    (tRet (tVar 3))))
    tNext)
    (tSeq (tAsg (tOp (rI (fun _ j => 0 < j) fun i j => .int (i % j)) (tOp (rI CMul fun i j => .int (i * j)) (tOp (rI0 fun i j => .int (i + j)) (tOp (rIx K) (tVar 0) (tC (.int 1))) (tC (.int 1))) (tC (.int 39373))) (tC (.int 1000000007))) (gName 4))
    (tSeq (tAsg (tOp (rI (fun _ j => 0 < j) fun i j => .int (i % j)) (tOp (rI CMul fun i j => .int (i * j)) (tOp (rI (fun _ j => 0 < j) fun i j => .int (i % j)) (tOp (rI CMul fun i j => .int (i * j)) (tVar 4) (tVar 4)) (tC (.int 998244353))) (tC (.int 30011))) (tC (.int 998244353))) (gName 5))
    (tSeq (tIfS (tTest (tOp (rI0 fun i j => .bl (decide (j < i))) (tVar 1) (tC (.int 1000000))))
    (tRet (tOp (rI (fun _ j => 0 < j) fun i j => .int (i % j)) (tOp (rI0 fun i j => .int (i + j)) (tOp (rI CMul fun i j => .int (i * j)) (tVar 5) (tC (.int 1000000007))) (tVar 4)) (tVar 1)))
    tNext)
    (tRet (tOp (rI (fun _ j => 0 < j) fun i j => .int (i % j)) (tOp (rI CDivW fun i j => .int (i / j)) (tVar 5) (tC (.int 7))) (tVar 1))))))) { nx := fun _ H' => Q .non H', rt := Q } [some (.ref a), some (.int n), s2, none, none, none] (upd H a (bagL x y z c)) := by
    intro x y z s2 hx hy hy1 hz
    have rd : ∀ {i : Int} {v : V}, atI [.int x, .int y, .int z, .ref c] i = some v → ∀ (Q' : VK), Q' v (upd H a (bagL x y z c)) → rIx K (.ref a) (.int i) (upd H a (bagL x y z c)) Q' := fun {i v} e Q' h =>
      .inl ⟨a, _, i, v, rfl, rfl, SqL.of upd_same, e, h⟩
    refine ⟨.ref a, rfl, rd (i := 0) rfl _ ⟨x, 0, rfl, rfl, _, rfl, ite_of (fun e => ?_) (fun e => ?_)⟩⟩
    · have hx1 : 0 < x := of_decide_eq_true e
      refine ⟨.ref a, rfl, rd (i := 0) rfl _ ⟨.int n, rfl, x, n, rfl, rfl, n0, ?_⟩⟩
      refine ⟨.ref a, rfl, rd (i := 0) rfl _ ⟨.int n, rfl, x, n, rfl, rfl, wide_div n0 (b := 62) (by omega) (by decide) (by decide), .ref a, rfl, a, _, 0, 0, rfl, rfl, upd_same, rfl, ?_⟩⟩
      refine ⟨.int (x % n), rfl, ?_⟩
      rw [upd_upd]
      exact fin (x / n) y z (x % n) (Int.ediv_nonneg hx (by omega)) hy hy1 hz (Int.emod_nonneg _ (by omega)) (Int.emod_lt_of_pos _ n0)
    · refine ⟨.ref a, rfl, rd (i := 1) rfl _ ⟨y, 1, rfl, rfl, y + 1, 39373, rfl, rfl, .inl (by omega), (y + 1) * 39373, 1000000007, rfl, rfl, (show (0 : Int) < 1000000007 from by decide), ?_⟩⟩
      obtain ⟨f, f0, hf⟩ : ∃ f : Int, (0 ≤ f ∧ f < 1000000007) ∧ (y + 1) * 39373 % 1000000007 = f := ⟨_, by omega, rfl⟩
      simp only [hf]
      refine ⟨.int f, rfl, .int f, rfl, f, f, rfl, rfl, .inl (by omega), f * f, 998244353, rfl, rfl, (show (0 : Int) < 998244353 from by decide), f * f % 998244353, 30011, rfl, rfl, .inr (by decide), _, 998244353, rfl, rfl, (show (0 : Int) < 998244353 from by decide), ?_⟩
      obtain ⟨g, g0, hg⟩ : ∃ g : Int, (0 ≤ g ∧ g < 998244353) ∧ f * f % 998244353 * 30011 % 998244353 = g := ⟨_, by omega, rfl⟩
      simp only [hg]
      refine ⟨.int n, rfl, n, 1000000, rfl, rfl, _, rfl, ite_of (fun e => ?_) (fun e => ?_)⟩
      · refine ⟨.int g, rfl, g, 1000000007, rfl, rfl, .inl (by omega), .int f, rfl, g * 1000000007, f, rfl, rfl, .int n, rfl, _, n, rfl, rfl, n0, ?_⟩
        exact fin x y z _ hx hy hy1 hz (Int.emod_nonneg _ (by omega)) (Int.emod_lt_of_pos _ n0)
      · refine ⟨.int g, rfl, g, 7, rfl, rfl, ⟨by decide, by decide +kernel⟩, .int n, rfl, g / 7, n, rfl, rfl, n0, ?_⟩
        exact fin x y z _ hx hy hy1 hz (Int.emod_nonneg _ (by omega)) (Int.emod_lt_of_pos _ n0)
  have eH : upd H a (bagL x y z c) = H := by
    funext a'
    by_cases e : a' = a
    · subst e; rw [upd_same]; exact hH.symm
    · rw [upd_ne e]
  have rd : ∀ (x y z : Int) {i : Int} {v : V}, atI [.int x, .int y, .int z, .ref c] i = some v → ∀ (Q' : VK), Q' v (upd H a (bagL x y z c)) → rIx K (.ref a) (.int i) (upd H a (bagL x y z c)) Q' := fun x y z {i v} e Q' h =>
      .inl ⟨a, _, i, v, rfl, rfl, SqL.of upd_same, e, h⟩
  rw [← eH]
  refine ⟨.ref a, rfl, rd x y z (i := 0) rfl _ ⟨.int x, .int 0, .int _, .int _, rfl, rfl, _, rfl, ite_of (fun e => ?_) (fun e => ?_)⟩⟩
  · -- a new cell
    have mid : ∀ (N : L2.St → Hp → Prop) (m : Int), 0 ≤ m → (∀ x y z s2, 0 ≤ x → 0 ≤ y → y < 2147483647 → 0 ≤ z → N [some (.ref a), some (.int n), s2, none, none, none] (upd H a (bagL x y z c))) →
        (tSeq (tAugS (tVar 0) (tC (.int 2)) (tC (.int 1)) (rIxL K) (ipI fun i j => i + j) rSetL)
    (tSeq (tIfS (tTest (tOp (rI0 fun i j => .bl (decide (j ≤ i))) (tVar 2) (tC (.int 1000000000000000000))))
    (tAsg (tVar 2) (gSub (tVar 0) (tC (.int 0)) rSetL))
    tNext)
    (tAsg (tOp (rI (fun _ j => 0 < j) fun i j => .int (i % j)) (tOp (rI0 fun i j => .int (i + j)) (tOp (rI0 fun i j => .int (i + j)) (tOp (rI CMul fun i j => .int (i * j)) (tOp (rIx K) (tVar 0) (tC (.int 1))) (tC (.int 48271))) (tOp (rI (fun _ j => 0 < j) fun i j => .int (i % j)) (tVar 2) (tC (.int 2147483647)))) (tOp (rI CMul fun i j => .int (i * j)) (tC (.int 7919)) (tOp (rIx K) (tVar 0) (tC (.int 2))))) (tC (.int 2147483647))) (gSub (tVar 0) (tC (.int 1)) rSetL))))
        { nx := N, rt := Q } [some (.ref a), some (.int n), some (.int m), none, none, none] (upd H a (bagL x y z c)) := by
      intro N m hm hN
      refine ⟨.ref a, rfl, a, _, 2, .int z, rfl, rfl, SqL.of upd_same, rfl, z, 1, rfl, rfl, a, _, 2, 2, rfl, rfl, upd_same, rfl, ?_⟩
      rw [upd_upd]
      have last : ∀ (x : Int), 0 ≤ x → (tAsg (tOp (rI (fun _ j => 0 < j) fun i j => .int (i % j)) (tOp (rI0 fun i j => .int (i + j)) (tOp (rI0 fun i j => .int (i + j)) (tOp (rI CMul fun i j => .int (i * j)) (tOp (rIx K) (tVar 0) (tC (.int 1))) (tC (.int 48271))) (tOp (rI (fun _ j => 0 < j) fun i j => .int (i % j)) (tVar 2) (tC (.int 2147483647)))) (tOp (rI CMul fun i j => .int (i * j)) (tC (.int 7919)) (tOp (rIx K) (tVar 0) (tC (.int 2))))) (tC (.int 2147483647))) (gSub (tVar 0) (tC (.int 1)) rSetL))
          { nx := N, rt := Q } [some (.ref a), some (.int n), some (.int m), none, none, none] (upd H a (bagL x y (z + 1) c)) := by
        intro x hx
        refine ⟨.ref a, rfl, rd x y (z + 1) (i := 1) rfl _ ⟨y, 48271, rfl, rfl, .inl (by omega), .int m, rfl, m, 2147483647, rfl, rfl, (show (0 : Int) < 2147483647 from by decide), y * 48271, m % 2147483647, rfl, rfl, .ref a, rfl, rd x y (z + 1) (i := 2) rfl _ ⟨7919, z + 1, rfl, rfl, .inl (by decide), _, _, rfl, rfl, _, 2147483647, rfl, rfl, (show (0 : Int) < 2147483647 from by decide), .ref a, rfl, a, _, 1, 1, rfl, rfl, upd_same, rfl, ?_⟩⟩⟩
        rw [upd_upd]
        exact hN x _ (z + 1) (some (.int m)) hx (Int.emod_nonneg _ (by decide)) (Int.emod_lt_of_pos _ (by decide)) (by omega)
      refine ⟨.int m, rfl, m, 1000000000000000000, rfl, rfl, _, rfl, ite_of (fun e2 => ?_) (fun e2 => ?_)⟩
      · refine ⟨.int m, rfl, .ref a, rfl, a, _, 0, 0, rfl, rfl, upd_same, rfl, ?_⟩
        rw [upd_upd]
        exact last m hm
      · exact last x x0
    refine ⟨.ref a, rfl, rd x y z (i := 2) rfl _ ⟨.ref a, rfl, rd x y z (i := 3) rfl _ ⟨c, _, rfl, .inl (hcU _), z, _, rfl, rfl, _, rfl, ite_of (fun e2 => ?_) (fun e2 => ?_)⟩⟩⟩
    · have hz : z < ((ns.map V.int).length : Int) := of_decide_eq_true e2
      have hlt : z.toNat < ns.length := by rw [List.length_map] at hz; omega
      have at1 : atI (ns.map V.int) z = some (.int ns[z.toNat]) := by
        have := atI_nat (xs := ns.map V.int) (j := z.toNat) (v := .int ns[z.toNat]) (by rw [List.getElem?_map, List.getElem?_eq_getElem hlt]; rfl)
        rw [Int.toNat_of_nonneg z0] at this
        exact this
      refine ⟨.ref a, rfl, rd x y z (i := 3) rfl _ ⟨.ref a, rfl, rd x y z (i := 2) rfl _ (.inl ⟨c, _, z, _, rfl, rfl, hcU _, at1, ?_⟩)⟩⟩
      exact mid _ _ (hns _ (List.getElem_mem _)) tail
    · exact mid _ 0 (Int.le_refl _) tail
  · exact tail x y z none x0 y0 y1 z0
end
section
variable {K : PySem.W.Frag} {b : Bg} {E : Env'} {tb : TE} {Φ : D → Prop} {EE : XK}
theorem wtake {i : Nat} (hb : b.isSome = true) (hi : E[i]? = some (.d .bag)) (h : wpe K b tb E fun y => ∃ n : Int, y = .int n ∧ 0 < n ∧ n ≤ 4000000000000000000 ∧ ∀ v, 0 ≤ v → v < n → Φ (.int v)) :
    wpe K b (tCall (spTake K) [] EE (tCons (tVar i) (tCons tb tNil))) E Φ := wpe_take hb (wpe_var hi ⟨rfl, h⟩)
theorem wtakeC {i : Nat} {n : Int} (hb : b.isSome = true) (hi : E[i]? = some (.d .bag)) (h0 : 0 < n) (h1 : n ≤ 4000000000000000000) (h : ∀ v, 0 ≤ v → v < n → Φ (.int v)) :
    wpe K b (tCall (spTake K) [] EE (tCons (tVar i) (tCons (tC (.int n)) tNil))) E Φ := wtake hb hi (wpe_int ⟨n, rfl, h0, h1, h⟩)
end
end DL

namespace DL
open PySem PySem.Spec PyProof.Rows L2
/-! sides, bounds, wishes, rows as data -/
abbrev Bnd := Int × Bool × Int
def wayS : Bool → Str
  | true => "most"
  | false => "least"
def encB (q : Bnd) : D := .tup [.int q.1, .str (wayS q.2.1), .int q.2.2]
def encR (r : List Int) : D := .tup (r.map D.int)
def encW (ws : List Bnd) : D := .lst (ws.map encB)
def rget (r : List Int) (c : Int) : Int := r.getD c.toNat 0
/-- whether a row meets a bound -/
def mb (r : List Int) (q : Bnd) : Bool := if q.2.1 then decide (rget r q.1 ≤ q.2.2) else decide (q.2.2 ≤ rget r q.1)
def inW (n : Nat) (q : Bnd) : Prop := 0 ≤ q.1 ∧ q.1 < n
theorem wayS_ok (m : Bool) : (wayS m).cps.all (· < 0x110000) = true := by cases m <;> decide +kernel
theorem wayS_len (m : Bool) : (wayS m).length ≤ 5 := by cases m <;> decide +kernel
theorem wayS_least (m : Bool) : D.eq (.str (wayS m)) (.str ("least" : Str)) = !m := by cases m <;> decide +kernel
theorem wayS_most (m : Bool) : D.eq (.str (wayS m)) (.str ("most" : Str)) = m := by cases m <;> decide +kernel
theorem ok_str {n : Nat} {x : Str} (h : x.cps.all (· < 0x110000) = true) : D.ok n (.str x) = true := by
  unfold D.ok
  exact h
theorem encB_ok (n : Nat) (q : Bnd) : D.ok (n + 1) (encB q) = true := by
  unfold encB D.ok D.okA D.ok D.okA D.okA D.ok
  cases n <;> simp [D.okA, D.ok, wayS_ok]
theorem encW_ok (n : Nat) (ws : List Bnd) : D.ok (n + 2) (encW ws) = true := by
  unfold encW D.ok
  refine okA_of fun d hd => ?_
  obtain ⟨q, _, rfl⟩ := List.mem_map.mp hd
  exact encB_ok n q
theorem encR_ok (n : Nat) (r : List Int) : D.ok (n + 1) (encR r) = true := by
  unfold encR D.ok
  refine okA_of fun d hd => ?_
  obtain ⟨q, _, rfl⟩ := List.mem_map.mp hd
  cases n <;> rfl
theorem rget_at {r : List Int} {c : Int} (h0 : 0 ≤ c) (h1 : c < r.length) : atI (r.map D.int) c = some (.int (rget r c)) := by
  have hl : c.toNat < r.length := by omega
  have := atI_nat (xs := r.map D.int) (j := c.toNat) (v := .int r[c.toNat]) (by rw [List.getElem?_map, List.getElem?_eq_getElem hl]; rfl)
  rw [Int.toNat_of_nonneg h0] at this
  rw [this]
  unfold rget
  rw [List.getD, List.getElem?_eq_getElem hl]
  rfl
theorem encB_cost (q : Bnd) : (encB q).cost ≤ 200 := by
  have := wayS_len q.2.1
  unfold encB
  simp only [D.cost, D.costA]
  omega
theorem encW_cost (ws : List Bnd) : (encW ws).cost ≤ ws.length * 202 + 5 := by
  unfold encW
  have h := costA_le (c := 200) (ds := ws.map encB) (fun d hd => by
    obtain ⟨q, _, rfl⟩ := List.mem_map.mp hd
    exact encB_cost q)
  rw [List.length_map] at h
  simp only [D.cost]
  omega
def smB (q : Bnd) : Prop := q.1.natAbs < 10 ^ 50 ∧ q.2.2.natAbs < 10 ^ 50
theorem encB_sm {q : Bnd} (h : smB q) : (encB q).sm = true := by
  unfold encB
  simp only [D.sm, D.smA, Bool.and_true, Bool.true_and, Bool.and_eq_true]
  exact ⟨decide_eq_true h.1, decide_eq_true h.2⟩
theorem encW_sm {ws : List Bnd} (h : ∀ q ∈ ws, smB q) : (encW ws).sm = true := by
  unfold encW
  simp only [D.sm]
  refine smA_of fun d hd => ?_
  obtain ⟨q, hq, rfl⟩ := List.mem_map.mp hd
  exact encB_sm (h q hq)
/-! the order of bounds -/
theorem encB_py (q : Bnd) : (encB q).py = .tuple [.int q.1, .str (wayS q.2.1), .int q.2.2] := by unfold encB; simp only [D.py, D.pyA]
theorem alikeB (p q : Bnd) : PySem.W.alike (encB p).py (encB q).py = true := by
  rw [encB_py, encB_py]
  simp [PySem.W.alike, PySem.W.alikeAll]
theorem allAlikeB (ws : List Bnd) : PySem.W.AllAlike ((ws.map encB).map D.py) := by
  rw [List.map_map]
  exact PySem.W.AllAlike.of (enc := D.py ∘ encB) fun p q => alikeB p q
theorem sortableB (ws : List Bnd) : PySem.W.Sortable ((ws.map encB).map D.py) := by
  rw [List.map_map]
  refine PySem.W.Sortable.tuples (enc := D.py ∘ encB) fun q => ⟨.int q.1, [.str (wayS q.2.1), .int q.2.2], ?_⟩
  exact encB_py q
def ltB (p q : Bnd) : Bool := if p.1 = q.1 then (if p.2.1 = q.2.1 then decide (p.2.2 < q.2.2) else q.2.1) else decide (p.1 < q.1)
theorem ltB_data (p q : Bnd) : PySem.W.dataLt (encB p).py (encB q).py = ltB p q := by
  obtain ⟨a, m, v⟩ := p
  obtain ⟨a', m', v'⟩ := q
  rw [encB_py, encB_py, PySem.W.dataLt_tuple]
  rw [PySem.W.dataLt_cons (by simp [PySem.W.alike]), PySem.W.dataLt_cons (by simp [PySem.W.alike]), PySem.W.dataLt_cons (by simp [PySem.W.alike])]
  rw [PySem.W.dataLt_int, PySem.W.dataLt_int, PySem.W.dataLt_str]
  unfold ltB
  have z1 : PyData.eqv (.int a) (.int a') = decide (a = a') := by show (a == a') = _; rfl
  have z2 : PyData.eqv (.str (wayS m)) (.str (wayS m')) = decide (m = m') := by cases m <;> cases m' <;> decide +kernel
  have z3 : PyData.eqv (.int v) (.int v') = decide (v = v') := by show (v == v') = _; rfl
  show (if PyData.eqv (.int a) (.int a') = true then (if PyData.eqv (.str (wayS m)) (.str (wayS m')) = true then (if PyData.eqv (.int v) (.int v') = true then PyProof.Rows.lexLt itemOrd (PySem.W.keyToksAll []) (PySem.W.keyToksAll []) else decide (v < v')) else decide ((wayS m).cps.toList < (wayS m').cps.toList)) else decide (a < a')) = _
  rw [z1, z2, z3]
  by_cases h1 : a = a'
  · rw [if_pos (decide_eq_true h1), if_pos (show (a, m, v).1 = (a', m', v').1 from h1)]
    by_cases h2 : m = m'
    · rw [if_pos (decide_eq_true h2), if_pos (show (a, m, v).2.1 = (a', m', v').2.1 from h2)]
      by_cases h3 : v = v'
      · rw [if_pos (decide_eq_true h3), h3]
        show false = decide (v' < v')
        rw [decide_eq_false (by omega)]
      · rw [if_neg (by simpa using h3)]
    · rw [if_neg (by simpa using h2), if_neg (show ¬ (a, m, v).2.1 = (a', m', v').2.1 from h2)]
      show decide ((wayS m).cps.toList < (wayS m').cps.toList) = m'
      cases m <;> cases m' <;> first | exact absurd rfl h2 | decide +kernel
  · rw [if_neg (by simpa using h1), if_neg (show ¬ (a, m, v).1 = (a', m', v').1 from h1)]
theorem leD_total : PySem.W.TotalLe leD := PySem.W.sortLe_total (listOrd itemOrd) false fun d : D => PySem.W.keyToks d.py
theorem leD_B (p q : Bnd) : leD (encB p) (encB q) = !ltB q p := by
  rw [← ltB_data]; rfl
theorem leD_antisymm {p q : Bnd} (h1 : leD (encB p) (encB q) = true) (h2 : leD (encB q) (encB p) = true) : p = q := by
  rw [leD_B] at h1 h2
  obtain ⟨a, m, v⟩ := p
  obtain ⟨a', m', v'⟩ := q
  unfold ltB at h1 h2
  simp only [Bool.not_eq_true'] at h1 h2
  by_cases e1 : a = a'
  · subst e1
    by_cases e2 : m = m'
    · subst e2
      simp at h1 h2
      have : v = v' := by omega
      rw [this]
    · have e3 : ¬ m' = m := fun z => e2 z.symm
      simp [e2, e3] at h1 h2
      exact absurd (h1.trans h2.symm) e2
  · have e3 : ¬ a' = a := fun z => e1 z.symm
    simp [e1, e3] at h1 h2
    omega
/-- the sorted bounds -/
def sortB (ws : List Bnd) : List Bnd := ws.mergeSort fun p q => leD (encB p) (encB q)
theorem sortB_map (ws : List Bnd) : (ws.map encB).mergeSort leD = (sortB ws).map encB :=
  (PySem.W.sort_maps (r := fun p q => leD (encB p) (encB q)) (s := leD) encB (fun _ _ _ _ => rfl)).symm
theorem sortB_perm (ws : List Bnd) : (sortB ws).Perm ws := List.mergeSort_perm _ _
theorem sortB_pw (ws : List Bnd) : (sortB ws).Pairwise fun p q => leD (encB p) (encB q) = true :=
  List.pairwise_mergeSort (le := fun p q => leD (encB p) (encB q)) (fun a b c h1 h2 => leD_total.trans _ _ _ h1 h2) (fun a b => by
    show (leD (encB a) (encB b) || leD (encB b) (encB a)) = true
    rcases leD_total.total (encB a) (encB b) with h | h
    · rw [h]; rfl
    · rw [h, Bool.or_true]) ws
theorem sortB_eq {ws us : List Bnd} (h : ws.Perm us) : sortB ws = sortB us :=
  List.Perm.eq_of_pairwise (fun a b _ _ h1 h2 => leD_antisymm h1 h2) (sortB_pw ws) (sortB_pw us) (((sortB_perm ws).trans h).trans (sortB_perm us).symm)
theorem eq_self {d : D} (n : Nat) (h : D.ok n d = true) : D.eq d d = true := PySem.SeqAt.eqv_refl d.py (ok_lay n d h).1
/-! draws -/
theorem any_bl {bs : List Bool} : ∀ {ds : List D}, ds = bs.map D.bl → ds = bs.map D.bl := id
end DL

namespace ZL
open PySem PySem.W PySem.Calls PyProof.Rows PyProof.V PySem.Spec
theorem zip_no_len : typeLookup (.type "zip") "__len__" = pure none := am_miss_of_fast (by decide +kernel)
theorem zip_no_hint : typeLookup (.type "zip") "__length_hint__" = pure none := am_miss_of_fast (by decide +kernel)
structure MadeZ (xs ys : Array Value) (lo : Addr) (h : Heap) (as : List Addr) : Prop where
  rise : as.Pairwise (· < ·)
  above : ∀ a ∈ as, lo < a
  pairs : ∀ (j : Nat) (a : Addr), as[j]? = some a → ∃ x y, xs[j]? = some x ∧ ys[j]? = some y ∧ IsPair h a x y
theorem MadeZ.there {xs ys : Array Value} {lo : Addr} {h : Heap} {as : List Addr} (g : MadeZ xs ys lo h as) {a : Addr} (ha : a ∈ as) : a < h.objs.size := by
  obtain ⟨j, hj⟩ := List.mem_iff_getElem?.mp ha
  obtain ⟨_, _, _, _, e⟩ := g.pairs j a hj
  exact Heap.lt_size e
def ZS (h : Heap) (S z TI TO i1 i2 l1 l2 : Addr) (xs ys : Array Value) (i : Nat) : Prop :=
  IsPair h TI (.ref i1) (.ref i2) ∧ h.IsListIter i1 l1 i ∧ h.IsListIter i2 l2 i ∧ h.IsList l1 xs ∧ h.IsList l2 ys ∧
  ((IsZip h z TI TO .none ∧ ∃ a b, IsPair h TO a b) ∨ ∃ T f oT, IsZipHeld h z TI TO T f ∧ h.get? T = some oT ∧ T ≠ z ∧ T ≠ i1 ∧ T ≠ i2 ∧ T ≠ S)
structure Below (S z TI TO i1 i2 l1 l2 : Addr) : Prop where
  z : z < S
  TI : TI < S
  TO : TO < S
  i1 : i1 < S
  i2 : i2 < S
  l1 : l1 < S
  l2 : l2 < S
theorem Below.off {S z TI TO i1 i2 l1 l2 : Addr} (B : Below S z TI TO i1 i2 l1 l2) : S ∉ [z, TO, i1, i2] := by
  simp only [List.mem_cons, List.not_mem_nil, or_false, not_or]
  exact ⟨Nat.ne_of_gt B.z, Nat.ne_of_gt B.TO, Nat.ne_of_gt B.i1, Nat.ne_of_gt B.i2⟩
section
variable {prog : Program} {w : World} {A : Around} {E : Value → Shared → Prop} {s : Shared} {S z TI TO i1 i2 l1 l2 : Addr} {xs ys : Array Value} {i : Nat}
theorem ZS.keep {h h' : Heap} (st : ZS h S z TI TO i1 i2 l1 l2 xs ys i) (B : Below S z TI TO i1 i2 l1 l2) (hk : ∀ b o, b ≠ S → h.get? b = some o → h'.get? b = some o) : ZS h' S z TI TO i1 i2 l1 l2 xs ys i := by
  obtain ⟨hTI, h1, h2, hl1, hl2, hz⟩ := st
  refine ⟨hk _ _ (Nat.ne_of_lt B.TI) hTI, h1.at fun o e => hk _ o (Nat.ne_of_lt B.i1) e, h2.at fun o e => hk _ o (Nat.ne_of_lt B.i2) e, hl1.at fun o e => hk _ o (Nat.ne_of_lt B.l1) e, hl2.at fun o e => hk _ o (Nat.ne_of_lt B.l2) e, ?_⟩
  rcases hz with ⟨hz, a, b, hTO⟩ | ⟨T, f, oT, hz, hT, r1, r2, r3, r4⟩
  · exact .inl ⟨hk _ _ (Nat.ne_of_lt B.z) hz, a, b, hk _ _ (Nat.ne_of_lt B.TO) hTO⟩
  · exact .inr ⟨T, f, oT, hk _ _ (Nat.ne_of_lt B.z) hz, hk _ _ r4 hT, r1, r2, r3, r4⟩
theorem zs_item {Q : Option Value → Shared → Prop} (D : ZipApart z TI TO i1 i2 l1 l2) (st : ZS s.heap S z TI TO i1 i2 l1 l2 xs ys i) (hS : S < s.heap.objs.size) {x y : Value} (ex : xs[i]? = some x) (ey : ys[i]? = some y)
    (hQ : ∀ h', ZS h' S z TI TO i1 i2 l1 l2 xs ys (i + 1) → IsPair h' s.heap.objs.size x y → (∀ b o, b ∉ [z, TO, i1, i2] → s.heap.get? b = some o → h'.get? b = some o) → Q (some (.ref s.heap.objs.size)) { s with heap := h' }) :
    wpAny (model prog w) A (pyNext (.ref z)) Q E s := by
  obtain ⟨hTI, h1, h2, hl1, hl2, hz⟩ := st
  have lt : ∀ {c o}, s.heap.get? c = some o → s.heap.objs.size ≠ c := fun e => Nat.ne_of_gt (Heap.lt_size e)
  have n1 : s.heap.objs.size ≠ i1 := let ⟨_, e, _⟩ := h1; lt e
  have n2 : s.heap.objs.size ≠ i2 := let ⟨_, e, _⟩ := h2; lt e
  rcases hz with ⟨hz, a, b, hTO⟩ | ⟨T, f, oT, hz, hT, r1, r2, r3, r4⟩
  · refine wpAny_pyNext_zip_item D hz hTI hTO h1 h2 hl1 hl2 ex ey fun h' a1 a2 a3 a4 a5 a6 hk => ?_
    exact hQ h' ⟨hk _ _ D.TIz D.TITO D.TIi1 D.TIi2 hTI, a3, a4, hl1.at fun o e => hk _ o D.l1z D.l1TO D.l1i1 D.l1i2 e, hl2.at fun o e => hk _ o D.l2z D.l2TO D.l2i1 D.l2i2 e,
        .inr ⟨s.heap.objs.size, false, _, a1, a5, lt hz, n1, n2, Nat.ne_of_gt hS⟩⟩ a5
      fun c o hc e => hk c o (fun x => hc (by simp [x])) (fun x => hc (by simp [x])) (fun x => hc (by simp [x])) (fun x => hc (by simp [x])) e
  · refine wpAny_pyNext_zip_item_held D hz hT hTI h1 h2 hl1 hl2 ex ey fun h' a1 a3 a4 a5 a6 hk => ?_
    exact hQ h' ⟨hk _ _ D.TIz D.TIi1 D.TIi2 hTI, a3, a4, hl1.at fun o e => hk _ o D.l1z D.l1i1 D.l1i2 e, hl2.at fun o e => hk _ o D.l2z D.l2i1 D.l2i2 e,
        .inr ⟨T, true, oT, a1, hk _ _ r1 r2 r3 hT, r1, r2, r3, r4⟩⟩ a5
      fun c o hc e => hk c o (fun x => hc (by simp [x])) (fun x => hc (by simp [x])) (fun x => hc (by simp [x])) e
theorem zs_done {Q : Option Value → Shared → Prop} (hh : A.handled = none) (D : ZipApart z TI TO i1 i2 l1 l2) (st : ZS s.heap S z TI TO i1 i2 l1 l2 xs ys i) (hend : xs[i]? = none ∨ ys[i]? = none)
    (hQ : ∀ h', (∀ b o, b ∉ [z, TO, i1, i2] → s.heap.get? b = some o → h'.get? b = some o) → Q none { s with heap := h' }) :
    wpAny (model prog w) A (pyNext (.ref z)) Q E s := by
  obtain ⟨hTI, h1, h2, hl1, hl2, hz⟩ := st
  rcases hz with ⟨hz, a, b, hTO⟩ | ⟨T, f, oT, hz, hT, r1, r2, r3, r4⟩
  · exact wpAny_pyNext_zip_end hh D hz hTI hTO h1 h2 hl1 hl2 hend fun h' hk => hQ h' fun c o hc e => hk c o (fun x => hc (by simp [x])) (fun x => hc (by simp [x])) (fun x => hc (by simp [x])) (fun x => hc (by simp [x])) e
  · exact wpAny_pyNext_zip_end_held hh D hz hT hTI h1 h2 hl1 hl2 hend fun h' hk => hQ h' fun c o hc e => hk c o (fun x => hc (by simp [x])) (fun x => hc (by simp [x])) (fun x => hc (by simp [x])) e
end
section
variable {prog : Program} {w : World} {A : Around} {s : Shared} {R : Result → Shared → Prop} {S z TI TO i1 i2 l1 l2 : Addr} {xs ys : Array Value}
theorem loopZ (hh : A.handled = none) (D : ZipApart z TI TO i1 i2 l1 l2) (B : Below S z TI TO i1 i2 l1 l2) (hxy : xs.size = ys.size) (hn : xs.size ≤ sizeLine) (res : Value) {h₁ : Heap}
    (hR : ∀ h' tk acc c as, (∀ b o, b ≠ S → b ∉ [z, TO, i1, i2] → h₁.get? b = some o → h'.get? b = some o) → h'.get? S = some { cls := .type "list", dict := none, data := .seq acc c, slots := #[] } → as.length = xs.size → MadeZ xs ys S h' as →
      acc.toList = as.map Value.ref → R (.ok (.ret res)) { s with heap := h', toks := tk }) :
    ∀ (k i : Nat) (h : Heap) (tk c : Nat) (acc : Array Value) (as : List Addr), xs.size - i = k → i ≤ xs.size → ZS h S z TI TO i1 i2 l1 l2 xs ys i → (∀ b o, b ≠ S → b ∉ [z, TO, i1, i2] → h₁.get? b = some o → h.get? b = some o) →
      h.get? S = some { cls := .type "list", dict := none, data := .seq acc c, slots := #[] } → acc.toList = as.map Value.ref → as.length = i → MadeZ xs ys S h as →
      codeAny (model prog w) A (.builtin "list.extend.loop" ⟨[.ref S, .ref z, res], []⟩) R { s with heap := h, toks := tk } := by
  have hSw : S ∉ [z, TO, i1, i2] := B.off
  have above_w : ∀ a, S < a → a ∉ [z, TO, i1, i2] := fun a ha => by
    simp only [List.mem_cons, List.not_mem_nil, or_false, not_or]
    exact ⟨Nat.ne_of_gt (Nat.lt_trans B.z ha), Nat.ne_of_gt (Nat.lt_trans B.TO ha), Nat.ne_of_gt (Nat.lt_trans B.i1 ha), Nat.ne_of_gt (Nat.lt_trans B.i2 ha)⟩
  intro k
  induction k with
  | zero =>
    intro i h tk c acc as hk hi hst hkeep hS hacc hal hG
    refine codeAny_builtin PySem.F.entry_extend_loop ?_
    rw [Around.under_plainId PySem.F.plain_extend_loop _]
    show wpAny _ A.in1 (pyNext (.ref z) >>= _) _ _ _
    refine wpAny_bind (zs_done (s := { s with heap := h, toks := tk }) (A := A.in1) hh D hst (.inl (Array.getElem?_eq_none (by omega))) fun h' he => ?_)
    refine wpAny_pure (hR h' tk acc c as (fun b o h1 h2 e => he b o h2 (hkeep b o h1 h2 e)) (he S _ hSw hS) (by omega) ⟨hG.rise, hG.above, fun j a hj => ?_⟩ hacc)
    obtain ⟨x, y, e1, e2, e3⟩ := hG.pairs j a hj
    exact ⟨x, y, e1, e2, he a _ (above_w a (hG.above a (List.mem_of_getElem? hj))) e3⟩
  | succ k ih =>
    intro i h tk c acc as hk hi hst hkeep hS hacc hal hG
    have hlt : i < xs.size := by omega
    have hlt2 : i < ys.size := by omega
    have hsz : acc.size = i := by rw [← Array.length_toList, hacc, List.length_map, hal]
    refine codeAny_builtin PySem.F.entry_extend_loop ?_
    rw [Around.under_plainId PySem.F.plain_extend_loop _]
    show wpAny _ A.in1 (pyNext (.ref z) >>= _) _ _ _
    refine wpAny_bind (zs_item (s := { s with heap := h, toks := tk }) (S := S) D hst (Heap.lt_size hS) (Array.getElem?_eq_getElem hlt) (Array.getElem?_eq_getElem hlt2) fun h' hst' ht hkp => ?_)
    dsimp only at ht hkp ⊢
    have hS' := hkp S _ hSw hS
    have up : ∀ b o, b ≠ S → h'.get? b = some o → (h'.update S (Obj.mapSeq (·.push (Value.ref h.objs.size)))).get? b = some o := fun b o hb e => (Heap.get?_update_other _ _ (Ne.symm hb)).trans e
    have hSl : S < h.objs.size := Heap.lt_size hS
    show wpAny _ A.in1 (updateSeq S (·.push (Value.ref h.objs.size)) >>= _) _ _ _
    refine wpAny_bind ?_
    refine wpAny_updateSeq hS' rfl (wpAny_pure ⟨plainId_quiet PySem.F.plain_extend_loop _, ih (i + 1) _ tk _ (acc.push (Value.ref h.objs.size)) (as ++ [h.objs.size]) (by omega) hlt (hst'.keep B up)
      (fun b o h1 h2 e => up b o h1 (hkp b o h2 (hkeep b o h1 h2 e))) (Heap.get?_update_self _ hS' rfl) (by rw [Array.toList_push, hacc, List.map_append]; rfl) (by rw [List.length_append, hal]; rfl) ⟨?_, ?_, ?_⟩⟩) (by rw [hsz]; omega) (by show (acc.push (Value.ref h.objs.size)).size ≤ sizeLine + 1; rw [Array.size_push, hsz]; omega)
    · refine List.pairwise_append.mpr ⟨hG.rise, List.pairwise_singleton _ _, fun a ha b hb => ?_⟩
      rw [List.mem_singleton.mp hb]
      exact hG.there ha
    · intro a ha
      rcases List.mem_append.mp ha with ha | ha
      · exact hG.above a ha
      · rw [List.mem_singleton.mp ha]; exact hSl
    · intro j b hj
      rcases Nat.lt_trichotomy j as.length with h1 | h1 | h1
      · rw [List.getElem?_append_left h1] at hj
        obtain ⟨x, y, e1, e2, e3⟩ := hG.pairs j b hj
        have hb := hG.above b (List.mem_of_getElem? hj)
        exact ⟨x, y, e1, e2, up b _ (Nat.ne_of_gt hb) (hkp b _ (above_w b hb) e3)⟩
      · subst h1
        have hb : h.objs.size = b := by simpa using hj
        subst hb
        exact ⟨xs[as.length]'(by omega), ys[as.length]'(by omega), Array.getElem?_eq_getElem _, Array.getElem?_eq_getElem _, up _ _ (Nat.ne_of_gt hSl) (by subst hal; exact ht)⟩
      · have hnone : (as ++ [h.objs.size])[j]? = none := List.getElem?_eq_none (by rw [List.length_append, List.length_singleton]; omega)
        rw [hnone] at hj; cases hj
end
section
variable {prog : Program} {w : World} {A : Around} {E : Value → Shared → Prop} {s : Shared} {z TI TO i1 i2 l1 l2 : Addr} {xs ys : Array Value}
/-- what a new zip of two lists is -/
structure NewZ (h : Heap) (z TI TO i1 i2 l1 l2 : Addr) (xs ys : Array Value) : Prop where
  D : ZipApart z TI TO i1 i2 l1 l2
  hz : IsZip h z TI TO .none
  hTI : IsPair h TI (.ref i1) (.ref i2)
  hTO : ∃ a b, IsPair h TO a b
  h1 : h.IsListIter i1 l1 0
  h2 : h.IsListIter i2 l2 0
  hl1 : h.IsList l1 xs
  hl2 : h.IsList l2 ys
theorem hintZ {Q : Bool → Shared → Prop} (hT : s.TypeIs (.ref z) "zip") (h : Q true s) : wpAny (model prog w) A (Builtin.List.listLengthHint (.ref z)) Q E s := by
  unfold Builtin.List.listLengthHint
  refine wpAny_bind (wpAny_specialOf hT zip_no_len ?_)
  refine wpAny_ite_split (fun hab => absurd hab (by decide)) (fun _ => ?_)
  refine wpAny_ite_split (fun hab => absurd hab (by decide)) (fun _ => ?_)
  refine wpAny_bind (wpAny_specialOf hT zip_no_hint ?_)
  exact wpAny_pure h
theorem NewZ.keep {h h' : Heap} (N : NewZ h z TI TO i1 i2 l1 l2 xs ys) (hk : ∀ b o, h.get? b = some o → h'.get? b = some o) : NewZ h' z TI TO i1 i2 l1 l2 xs ys := by
  obtain ⟨D, hz, hTI, ⟨a, b, hTO⟩, h1, h2, hl1, hl2⟩ := N
  exact ⟨D, hk _ _ hz, hk _ _ hTI, ⟨a, b, hk _ _ hTO⟩, h1.at fun o e => hk _ o e, h2.at fun o e => hk _ o e, hl1.at fun o e => hk _ o e, hl2.at fun o e => hk _ o e⟩
theorem NewZ.below {h : Heap} {S : Addr} (N : NewZ h z TI TO i1 i2 l1 l2 xs ys) (hS : h.objs.size ≤ S) : Below S z TI TO i1 i2 l1 l2 := by
  obtain ⟨D, hz, hTI, ⟨a, b, hTO⟩, ⟨_, h1, _⟩, ⟨_, h2, _⟩, ⟨_, hl1, _⟩, ⟨_, hl2, _⟩⟩ := N
  exact ⟨Nat.lt_of_lt_of_le (Heap.lt_size hz) hS, Nat.lt_of_lt_of_le (Heap.lt_size hTI) hS, Nat.lt_of_lt_of_le (Heap.lt_size hTO) hS, Nat.lt_of_lt_of_le (Heap.lt_size h1) hS, Nat.lt_of_lt_of_le (Heap.lt_size h2) hS, Nat.lt_of_lt_of_le (Heap.lt_size hl1) hS, Nat.lt_of_lt_of_le (Heap.lt_size hl2) hS⟩
theorem NewZ.st {h : Heap} {S : Addr} (N : NewZ h z TI TO i1 i2 l1 l2 xs ys) : ZS h S z TI TO i1 i2 l1 l2 xs ys 0 :=
  ⟨N.hTI, N.h1, N.h2, N.hl1, N.hl2, .inl ⟨N.hz, N.hTO⟩⟩
theorem extendZ {R : Result → Shared → Prop} (hh : A.handled = none) (N : NewZ s.heap z TI TO i1 i2 l1 l2 xs ys) (hxy : xs.size = ys.size) (hn : xs.size ≤ sizeLine) (S : Addr) (B : Below S z TI TO i1 i2 l1 l2) (res : Value) (c₀ : Nat) (hS : s.heap.get? S = some { cls := .type "list", data := .seq #[] c₀ })
    (hR : ∀ h' tk acc c as, (∀ b o, b ≠ S → b ∉ [z, TO, i1, i2] → s.heap.get? b = some o → h'.get? b = some o) → h'.get? S = some { cls := .type "list", dict := none, data := .seq acc c, slots := #[] } → as.length = xs.size → MadeZ xs ys S h' as →
      acc.toList = as.map Value.ref → R (.ok (.ret res)) { s with heap := h', toks := tk }) :
    wpAny (model prog w) A.in1 (Builtin.List.listExtendWith (.ref S) (.ref z) res)
      (fun fin s' => match fin with | .done f => R (.ok f) s' | .again c' => c'.quiet = true ∧ codeAny (model prog w) A c' R s') (fun e s' => R (.error e) s') s := by
  have key : ∀ (h : Heap) (c₁ tk : Nat), (∀ b o, b ≠ S → s.heap.get? b = some o → h.get? b = some o) →
      h.get? S = some { cls := .type "list", data := .seq #[] c₁ } → codeAny (model prog w) A (.builtin "list.extend.loop" ⟨[.ref S, .ref z, res], []⟩) R { s with heap := h, toks := tk } := by
    intro h c₁ tk hk hS₁
    exact loopZ (s := s) (h₁ := s.heap) hh N.D B hxy hn res hR xs.size 0 h tk c₁ #[] [] (Nat.sub_zero _) (Nat.zero_le _) (N.st.keep B hk) (fun b o hb _ e => hk b o hb e) hS₁ rfl rfl
      ⟨List.Pairwise.nil, (fun _ ha => nomatch ha), (fun j a hj => by simp at hj)⟩
  have hT : s.TypeIs (.ref z) "zip" := ⟨_, N.hz, rfl⟩
  unfold Builtin.List.listExtendWith
  refine wpAny_bind (wpAny_typeOf (T := "zip") hT ?_)
  have h1 : Builtin.List.listSameRef (.ref S) (.ref z) = false := by simp [Builtin.List.listSameRef, Nat.ne_of_gt B.z]
  have h2 : (Value.type "zip" == Value.type "list") = false := by decide
  have h3 : (Value.type "zip" == Value.type "tuple") = false := by decide
  simp only [h1, h2, h3, Bool.or_false, Bool.false_eq_true, if_false]
  refine wpAny_bind (wpAny_pyIter_zip N.hz ?_)
  refine wpAny_bind (wpAny_holding (hintZ hT ?_))
  refine wpAny_ite_split (fun _ => ?_) (fun _ => wpAny_pure ⟨plainId_quiet PySem.F.plain_extend_loop _, key _ c₀ _ (fun b o _ e => e) hS⟩)
  refine wpAny_bind (wpAny_rule ?_)
  refine wpAny_bind ?_
  show wpAny _ _ (updateSeq S (·.push .none) >>= fun _ => updateSeq S (·.pop)) _ _ _
  refine wpAny_bind (wpAny_updateSeq hS rfl ?_)
  have hS₂ := Heap.get?_update_self (Obj.mapSeq (·.push Value.none)) hS rfl
  refine wpAny_updateSeq (hz := by seq_fits) hS₂ rfl ?_
  have hS₃ := Heap.get?_update_self (Obj.mapSeq (·.pop)) hS₂ rfl
  refine wpAny_pure ⟨plainId_quiet PySem.F.plain_extend_loop _, key _ _ _ (fun b o hb e => ?_) hS₃⟩
  exact (Heap.get?_update_other _ _ (Ne.symm hb)).trans ((Heap.get?_update_other _ _ (Ne.symm hb)).trans e)
theorem collectZ {R : List Value → Shared → Prop} (hh : A.handled = none) (N : NewZ s.heap z TI TO i1 i2 l1 l2 xs ys) (hxy : xs.size = ys.size) (hn : xs.size ≤ sizeLine)
    (h : ∀ (h' : Heap) (tk : Nat) (as : List Addr), (∀ b o, b ∉ [z, TO, i1, i2] → s.heap.get? b = some o → h'.get? b = some o) → s.heap.objs.size < h'.objs.size → as.length = xs.size → MadeZ xs ys s.heap.objs.size h' as → R (as.map Value.ref) { s with heap := h', toks := tk }) :
    wpAny (model prog w) A (collect (.ref z)) R E s := by
  unfold collect
  refine wpAny_bind (wpAny_runValue (codeAny_builtin entry_proto_collect' ?_))
  rw [Around.under_plainId PySem.F.plain_proto_collect _]
  show wpAny _ A.in1 (newList [] >>= fun l => again (.builtin "list.__iadd__" ⟨[l, .ref z], []⟩)) _ _ s
  refine wpAny_bind (wpAny_newObj_type ?_)
  refine wpAny_pure ⟨plainId_quiet PySem.F.plain_list_iadd _, codeAny_builtin entry_list_iadd' ?_⟩
  rw [Around.under_plainId PySem.F.plain_list_iadd _]
  have hS₁ : (s.heap.push { cls := .type "list", data := .seq ([] : List Value).toArray }).get? s.heap.objs.size = some { cls := .type "list", data := .seq #[] } := Heap.get?_push_size _ rfl
  show wpAny _ A.in1 (Builtin.List.listExtendWith (.ref s.heap.objs.size) (.ref z) (.ref s.heap.objs.size)) _ _ _
  have N2 := N.keep (h' := s.heap.push { cls := .type "list", data := .seq ([] : List Value).toArray }) (fun b o e => Heap.get?_push_of_some _ e)
  have B := N.below (S := s.heap.objs.size) (Nat.le_refl _)
  have key := extendZ (prog := prog) (w := w) (A := A) (s := { s with heap := s.heap.push { cls := .type "list", data := .seq ([] : List Value).toArray } })
    (R := fun (q : Result) (s' : Shared) => ∃ (h' : Heap) (tk : Nat) (acc' : Array Value) (c' : Nat) (as : List Addr), q = .ok (.ret (.ref s.heap.objs.size)) ∧ s' = { s with heap := h', toks := tk } ∧
      (∀ b o, b ∉ [z, TO, i1, i2] → s.heap.get? b = some o → h'.get? b = some o) ∧ h'.get? s.heap.objs.size = some { cls := .type "list", dict := none, data := .seq acc' c', slots := #[] } ∧ as.length = xs.size ∧ MadeZ xs ys s.heap.objs.size h' as ∧ acc'.toList = as.map Value.ref)
    hh N2 hxy hn s.heap.objs.size B (.ref s.heap.objs.size) 0 hS₁
    (fun h' tk acc' c' as hk hS' hl hG hacc => ⟨h', tk, acc', c', as, rfl, rfl, fun b o hb e => hk b o (Nat.ne_of_lt (Heap.lt_size e)) hb (Heap.get?_push_of_some _ e), hS', hl, hG, hacc⟩)
  refine wpAny_mono key (fun fin s' x => ?_) fun e s' x => ?_
  · cases fin with
    | done f =>
      obtain ⟨h', tk, acc', c', as, e, rfl, hk, hS', hl, hG, hacc⟩ := x
      cases e
      show wpAny _ A (load s.heap.objs.size >>= _) _ _ _
      refine wpAny_bind (wpAny_load hS' ?_)
      refine wpAny_pure ?_
      show R acc'.toList _
      rw [hacc]
      exact h h' tk as hk (Heap.lt_size hS') hl hG
    | again c₁ =>
      refine ⟨x.1, codeAny_mono x.2 fun q s₂ y => ?_⟩
      obtain ⟨h', tk, acc', c', as, rfl, rfl, hk, hS', hl, hG, hacc⟩ := y
      show wpAny _ A (load s.heap.objs.size >>= _) _ _ _
      refine wpAny_bind (wpAny_load hS' ?_)
      refine wpAny_pure ?_
      show R acc'.toList _
      rw [hacc]
      exact h h' tk as hk (Heap.lt_size hS') hl hG
  · obtain ⟨_, _, _, _, _, e', _⟩ := x
    cases e'
/-- sorted(zip) up to the sort of the pairs -/
theorem sortedZ {Q : Value → Shared → Prop} (hh : A.handled = none) (N : NewZ s.heap z TI TO i1 i2 l1 l2 xs ys) (hxy : xs.size = ys.size) (hn : xs.size ≤ sizeLine)
    (h : ∀ (h' : Heap) (tk : Nat) (as : List Addr), (∀ b o, b ∉ [z, TO, i1, i2] → s.heap.get? b = some o → h'.get? b = some o) → s.heap.objs.size < h'.objs.size → as.length = xs.size → MadeZ xs ys s.heap.objs.size h' as →
      wpAny (model prog w) A.in1 (call (.builtin "list.sort") [.ref h'.objs.size]) (fun _ s' => Q (.ref h'.objs.size) s') E { s with heap := h'.push { cls := .type "list", data := .seq (as.map Value.ref).toArray }, toks := tk }) :
    wpAny (model prog w) A (call (.builtin "sorted") [.ref z]) Q E s := by
  refine call_function_entry kind_sorted plain_sorted entry_sorted (args_sorted1 _) ?_
  unfold Builtin.«sorted»
  refine wpAny_bind (m := checkCount "sorted" 1 1 _) (wpAny_pure ?_)
  refine wpAny_bind (collectZ (A := A.in1) hh N hxy hn fun h' tk as hk hlt hl hG => ?_)
  refine wpAny_bind (wpAny_newList ?_ (by rw [List.length_map, hl]; exact hn))
  have hg := h h' tk as hk hlt hl hG
  refine wpAny_bind (wpAny_holding (wpAny_mono hg (fun _ s' x => ?_) fun _ _ e => e))
  exact wpAny_pure ⟨_, rfl, x⟩
end
end ZL

namespace DL
open PySem PySem.Spec PyProof.Rows L2
def encP (e : Int × Int) : PyData := .tuple [.int e.1, .int e.2]
def srtP (l : List (Int × Int)) : List (Int × Int) := l.mergeSort (PySem.W.dataLe false encP)
/-- sorted(zip(xs, ys)) of two lists of ints -/
def rSrtZip (K : PySem.W.Frag) : List V → Hp → VK → Prop := fun vs H Q => ∃ (a b : Addr) (xs ys : List Int), vs = [.ref a, .ref b] ∧ SqL K H a (xs.map V.int) ∧ SqL K H b (ys.map V.int) ∧ xs.length = ys.length ∧
  ∀ (H' : Hp) (p : Addr) (zs : List (Addr × Int × Int)), (∀ c o, H c = some o → H' c = some o) → zs.map (·.2) = srtP (xs.zip ys) → H p = none → H' p = some (.lst (zs.map fun z => V.ref z.1)) → (∀ z ∈ zs, z.1 ≠ p ∧ H z.1 = none ∧ H' z.1 = some (.tup [.int z.2.1, .int z.2.2])) → Q (.ref p) H'
section
variable {X : Cx} {pins : List (Addr × Obj)} {σ : L2.St} {H : Hp} {s : Shared}
theorem vals_intsV : ∀ {ns : List Int} {us : List Value}, Vals (ns.map V.int) us → ∀ (j : Nat) (u : Value), us[j]? = some u → ∃ n t, ns[j]? = some n ∧ u = .int n t
  | [], _, h, j, u, e => by cases h; simp at e
  | n :: ns, _, h, 0, u, e => by
    cases h with
    | cons r _ => (obtain ⟨t, rfl⟩ := r; simp at e; exact ⟨n, t, rfl, e.symm⟩)
  | n :: ns, _, h, j + 1, u, e => by
    cases h with
    | cons _ rr => (obtain ⟨m, t, h1, h2⟩ := vals_intsV rr j u (by simpa using e); exact ⟨m, t, by simpa using h1, h2⟩)
theorem each_fst {β : Type} : ∀ {out : List Value} {zs : List (Addr × β)}, PySem.W.EachIs (fun v (b : Addr × β) => v = .ref b.1) out zs → out = zs.map fun z => Value.ref z.1
  | _, _, .nil => rfl
  | _, _, .cons h t => by rw [h, each_fst t]; rfl
theorem vals_fst {β : Type} : ∀ (zs : List (Addr × β)), Vals (zs.map fun z => V.ref z.1) (zs.map fun z => Value.ref z.1)
  | [] => .nil
  | _ :: zs => .cons rfl (vals_fst zs)
theorem call_srtZip (hc : X.calm = true) (hu : X.A.units + 100 < cLine) {a b : Addr} {xs ys : List Int} {Q : VK} {z TI TO i1 i2 : Addr} {us1 us2 : List Value} {h' : Heap} (I : Inv X pins σ H s)
    (rv1 : Vals (xs.map V.int) us1) (rv2 : Vals (ys.map V.int) us2) (hxy : xs.length = ys.length) (hn : xs.length ≤ sizeLine)
    (hss : s.heap.objs.size ≤ h'.objs.size) (hk : ∀ c o, s.heap.get? c = some o → h'.get? c = some o) (N : ZL.NewZ h' z TI TO i1 i2 a b us1.toArray us2.toArray) (hw : ∀ c ∈ [z, TO, i1, i2], FpOk X pins H c)
    (q : ∀ (H' : Hp) (p : Addr) (zs : List (Addr × Int × Int)), (∀ c o, H c = some o → H' c = some o) → zs.map (·.2) = srtP (xs.zip ys) → H p = none → H' p = some (.lst (zs.map fun z => V.ref z.1)) → (∀ z ∈ zs, z.1 ≠ p ∧ H z.1 = none ∧ H' z.1 = some (.tup [.int z.2.1, .int z.2.2])) → Q (.ref p) H') :
    wpAny (model X.prog X.w) X.A (call (.builtin "sorted") [.ref z]) (EP X pins σ Q) X.xe { s with heap := h' } := by
  have l1 := rv1.length
  have l2 := rv2.length
  rw [List.length_map] at l1 l2
  refine ZL.sortedZ (s := { s with heap := h' }) (I.ok.hd hc) N (by rw [List.size_toArray, List.size_toArray]; omega) (by rw [List.size_toArray]; omega) fun h2 tk as k2 hlt hl hG => ?_
  rw [List.size_toArray] at hl
  have nd : as.Nodup := List.Pairwise.imp (fun h => Nat.ne_of_lt h) hG.rise
  let bs : List (Addr × Int × Int) := as.zip (xs.zip ys)
  have lz : (xs.zip ys).length = xs.length := by rw [List.length_zip]; omega
  have lb : bs.length = as.length := by show (as.zip (xs.zip ys)).length = _; rw [List.length_zip]; omega
  -- the pair at each place
  have pr : ∀ (j : Nat) (e : Addr × Int × Int), bs[j]? = some e → as[j]? = some e.1 ∧ ∃ t1 t2, IsPair h2 e.1 (.int e.2.1 t1) (.int e.2.2 t2) := by
    intro j e hj
    obtain ⟨j1, j2⟩ := List.getElem?_zip_eq_some.mp hj
    obtain ⟨j3, j4⟩ := List.getElem?_zip_eq_some.mp j2
    obtain ⟨x, y, e1, e2, e3⟩ := hG.pairs j e.1 j1
    obtain ⟨n1, t1, z1, rfl⟩ := vals_intsV rv1 j x (by simpa using e1)
    obtain ⟨n2, t2, z2, rfl⟩ := vals_intsV rv2 j y (by simpa using e2)
    rw [j3] at z1
    rw [j4] at z2
    cases z1
    cases z2
    exact ⟨j1, t1, t2, e3⟩
  have prm : ∀ e ∈ bs, e.1 ∈ as ∧ ∃ t1 t2, IsPair h2 e.1 (.int e.2.1 t1) (.int e.2.2 t2) := fun e he => by
    obtain ⟨j, hj⟩ := List.mem_iff_getElem?.mp he
    obtain ⟨a1, a2⟩ := pr j e hj
    exact ⟨List.mem_of_getElem? a1, a2⟩
  have hob : (h2.push { cls := .type "list", data := .seq (as.map Value.ref).toArray }).get? h2.objs.size = some (seqObj "list" (as.map Value.ref).toArray 0) := Heap.get?_push_size _ rfl
  have ka : ∀ b o, h2.get? b = some o → (h2.push { cls := .type "list", data := .seq (as.map Value.ref).toArray }).get? b = some o := fun b o e => Heap.get?_push_of_some _ e
  have ne0 : ∀ b o, h2.get? b = some o → b ≠ h2.objs.size := fun b o e => Nat.ne_of_lt (Heap.lt_size e)
  generalize h2.push { cls := .type "list", data := .seq (as.map Value.ref).toArray } = h3 at hob ka ⊢
  have e0 : PySem.W.EachIs (fun v (b : Addr × Int × Int) => v = .ref b.1) (as.map Value.ref) bs := by
    refine PySem.W.EachIs.of_zip (by rw [List.length_map, lb]) fun p hp => ?_
    obtain ⟨j, hj⟩ := List.mem_iff_getElem?.mp hp
    obtain ⟨j1, j2⟩ := List.getElem?_zip_eq_some.mp hj
    obtain ⟨a1, _⟩ := pr j p.2 j2
    rw [List.getElem?_map, a1] at j1
    exact (Option.some.inj j1).symm
  have er : PySem.W.EachIs (fun v (b : Addr × Int × Int) => ∃ ls, Reads h3 v (encP b.2) ls ∧ h2.objs.size ∉ ls) (as.map Value.ref) bs := by
    refine PySem.W.EachIs.of_zip (by rw [List.length_map, lb]) fun p hp => ?_
    have ev := e0.zip p hp
    obtain ⟨_, hp2⟩ := List.of_mem_zip hp
    obtain ⟨_, t1, t2, hg⟩ := prm p.2 hp2
    refine ⟨[], ?_, by simp⟩
    rw [ev]
    exact .tuple (as := []) (ka _ _ hg) rfl rfl (.cons (as := []) (bs := []) (.int _ _) (.cons (as := []) (bs := []) (.int _ _) .nil))
  refine PySem.W.list_sort_data (s := { s with heap := h3, toks := tk }) (bs := bs) (enc := fun b => encP b.2) (R := fun v b => v = .ref b.1) hob e0 er (PySem.W.AllAlike.of fun b b' => by simp [encP, PySem.W.alike, PySem.W.alikeAll]) (PySem.W.Sortable.tuples fun b => ⟨_, _, rfl⟩) (by rw [lb]; omega) (fun b _ => ?_) fun out ho eo => ?_
  · show X.A.units + 1 + 1 + _ < cLine
    have : (encP b.2).depth ≤ 10 := by simp [encP, PyData.depth, PyData.depthAll]
    omega
  let zs := bs.mergeSort (PySem.W.dataLe false fun b : Addr × Int × Int => encP b.2)
  have hout : out = zs.map fun z => Value.ref z.1 := each_fst eo
  have zmem : ∀ z ∈ zs, z ∈ bs := fun z hz => (List.mem_mergeSort).mp hz
  have zsnd : zs.map (·.2) = srtP (xs.zip ys) := by
    have hs := PySem.W.sort_maps (r := PySem.W.dataLe false fun b : Addr × Int × Int => encP b.2) (s := PySem.W.dataLe false encP) (Prod.snd : Addr × Int × Int → Int × Int) (l := bs) (fun _ _ _ _ => rfl)
    show zs.map Prod.snd = _
    rw [hs, List.map_snd_zip (by rw [hl]; omega)]
    rfl
  -- behind the sort
  have kF : ∀ b o, h2.get? b = some o → (sortedHeap h3 h2.objs.size (as.map Value.ref) out.toArray).get? b = some o := fun b o e => (PyProof.Rows.sortedHeap_old (ne0 _ _ e) (Heap.lt_size (ka _ _ e))).trans (ka _ _ e)
  obtain ⟨eF, heF⟩ := PyProof.Rows.sortedHeap_at (vs := as.map Value.ref) (out := out.toArray) hob
  have I2 : Inv X pins σ H { s with heap := sortedHeap h3 h2.objs.size (as.map Value.ref) out.toArray, toks := tk } :=
    Inv.turnedL (s := s) (t' := tk) (ch := [z, TO, i1, i2]) I (fun b o hb e => kF b o (k2 b o hb (hk b o e))) hw
  have hge : s.heap.objs.size ≤ h2.objs.size := Nat.le_trans hss (Nat.le_of_lt hlt)
  have hn0 : H h2.objs.size = none := I.hok.fresh hge
  have zlen : zs.length ≤ sizeLine := by
    show (bs.mergeSort _).length ≤ _
    rw [List.length_mergeSort, lb]; omega
  have I3 : Inv X pins σ (upd H h2.objs.size (.lst (zs.map fun z => V.ref z.1))) { s with heap := sortedHeap h3 h2.objs.size (as.map Value.ref) out.toArray, toks := tk } :=
    I2.take (h' := sortedHeap h3 h2.objs.size (as.map Value.ref) out.toArray) (t' := tk) (fun b ob _ e => e) (I.fpOk hge hn0) ⟨by rw [List.length_map]; exact zlen, out, eF, by rw [hout]; exact vals_fst zs, heF⟩
  obtain ⟨H2, I4, g, qt⟩ := L2.DX.takeT (P := fun b vs => ∀ e, (b, e) ∈ bs → vs = [V.int e.1, V.int e.2]) I as _ I3 nd fun b hb => by
    have hbl : s.heap.objs.size ≤ b := Nat.le_trans hss (Nat.le_of_lt (hG.above b hb))
    obtain ⟨j, hj⟩ := List.mem_iff_getElem?.mp hb
    have hjl : j < bs.length := by rw [lb]; exact (List.getElem?_eq_some_iff.mp hj).1
    obtain ⟨a1, t1, t2, hg⟩ := pr j bs[j] (List.getElem?_eq_getElem hjl)
    have eb : bs[j].1 = b := Option.some.inj (a1.symm.trans hj)
    rw [eb] at hg
    refine ⟨hbl, ?_, [.int bs[j].2.1, .int bs[j].2.2], fun e he => ?_, fun H3 => ⟨(by rw [sizeLine_eq]; show 2 ≤ 16777216; omega), [_, _], .cons ⟨t1, rfl⟩ (.cons ⟨t2, rfl⟩ .nil), ⟨_, kF _ _ hg, rfl, 0, rfl⟩⟩⟩
    · rw [upd_ne (ne0 _ _ hg)]
      exact I.hok.fresh hbl
    · obtain ⟨i, hi⟩ := List.mem_iff_getElem?.mp he
      obtain ⟨b1, _⟩ := pr i _ hi
      have eij : i = j := (List.getElem?_inj (List.getElem?_eq_some_iff.mp b1).1 nd).mp (b1.trans hj.symm)
      subst eij
      rw [List.getElem?_eq_getElem hjl] at hi
      rw [Option.some.inj hi]
  refine ⟨.ref h2.objs.size, H2, I4, rfl, q H2 h2.objs.size zs (fun b o e => g b o (by rw [upd_ne (ne_of_none e hn0)]; exact e)) zsnd hn0 (g _ _ upd_same) fun z' hz' => ?_⟩
  obtain ⟨m1, t1, t2, hg⟩ := prm z' (zmem z' hz')
  obtain ⟨vs, hP, hH⟩ := qt z'.1 m1
  rw [hP z'.2 (zmem z' hz')] at hH
  exact ⟨ne0 _ _ hg, I.hok.fresh (Nat.le_trans hss (Nat.le_of_lt (hG.above _ m1))), hH⟩
/-- sorted(zip(e, e')) -/
theorem pe_srtZip {K : PySem.W.Frag} {e1 e2 : Expr} {ta : TA} {p1 p2 q1 q2 : Pos} (hu : X.A.units + 100 < cLine) (g1 : Gl X "sorted") (m1 : X.mg "sorted" = none) (g2 : Gl X "zip") (m2 : X.mg "zip" = none) (ha : PA X [e1, e2] ta) (hc : X.calm = true := by rfl) (hK : X.K = K := by rfl)
    (hs : starEach [e1, e2] X.env = (false, eval e1 X.env) :: starEach [e2] X.env := by rfl) (hpl : (backTo q2 (starEach [e2] X.env)).any (·.1) = false := by rfl)
    (hs1 : starEach [.Call (.Name "zip" p2) [e1, e2] [] q2] X.env = (false, eval (.Call (.Name "zip" p2) [e1, e2] [] q2) X.env) :: starEach [] X.env := by rfl) :
    PE X (.Call (.Name "sorted" p1) [.Call (.Name "zip" p2) [e1, e2] [] q2] [] q1) (tCB (rSrtZip K) ta) := by
  subst hK
  refine ⟨fun pins s σ H Q I h => ?_⟩
  refine wpAny_Call_Name_kw (ld_blt I g1 m1 bt_sorted ?_)
  refine PyProof.Rows.callWith_builtin1 ?_ hs1 (by rfl)
  rw [hs1]
  show wpAny _ _ (spliced ((false, eval (.Call (.Name "zip" p2) [e1, e2] [] q2) X.env) :: backTo q1 (starEach [] X.env))) _ _ s
  refine Calls.spliced_cons ?_
  refine Call_ (ld_blt I g2 m2 PyProof.Rows.boot_zip (PyProof.Rows.callWith_type1 (thn (ha.run q2 pins s σ H _ I h) fun us s1 ⟨vs, H1, I1, r1, q⟩ => ?_) hs hpl))
  obtain ⟨a, b, xs, ys, rfl, hqx, hqy, hxy, q⟩ := q
  cases r1 with
  | cons r rr =>
    cases rr with
    | cons r' rr =>
      cases rr
      cases r
      cases r'
      obtain ⟨its, rv, p1, hz1⟩ := I1.list hqx
      obtain ⟨its2, rv2, p2, hz2⟩ := I1.list hqy
      have la : a < s1.heap.objs.size := p1.lt
      have lb : b < s1.heap.objs.size := p2.lt
      refine call_zip_2 p1.isList p2.isList fun h' hz hTI hTO h1 h2 hsz hk => ?_
      show wpAny _ _ (spliced []) _ _ _
      refine Calls.spliced_nil ?_
      refine call_srtZip hc hu I1 rv rv2 hxy (by rw [List.length_map] at hz1; exact hz1) (by omega) hk ⟨PySem.W.ktu_apart s1.heap.objs.size a b la lb, hz, hTI, ⟨_, _, hTO⟩, h1, h2, p1.isList.at fun o e => hk _ o e, p2.isList.at fun o e => hk _ o e⟩ (fun c hcm => ?_) q
      have e' : c = s1.heap.objs.size + 4 ∨ c = s1.heap.objs.size + 3 ∨ c = s1.heap.objs.size ∨ c = s1.heap.objs.size + 1 := by simpa using hcm
      have hle : s1.heap.objs.size ≤ c := by
        rcases e' with z | z | z | z
        · rw [z]; exact Nat.le_add_right _ _
        · rw [z]; exact Nat.le_add_right _ _
        · rw [z]; exact Nat.le_refl _
        · rw [z]; exact Nat.le_add_right _ _
      exact I1.fpOk hle (I1.hok.fresh hle)
end
/-! as data -/
section
variable {K : PySem.W.Frag} {b : Bg} {E : Env'}
def dP (e : Int × Int) : D := .tup [.int e.1, .int e.2]
theorem dva_pairs {F : Hp} : ∀ {zs : List (Addr × Int × Int)}, (∀ z ∈ zs, F z.1 = some (.tup [.int z.2.1, .int z.2.2])) → DvA K b F (zs.map fun z => V.ref z.1) ((zs.map (·.2)).map dP)
  | [], _ => .nil
  | z :: zs, h => .cons (.tup (.inl (.inl (h z List.mem_cons_self))) (.cons (.int _) (.cons (.int _) .nil))) (dva_pairs fun y hy => h y (List.mem_cons_of_mem _ hy))
theorem rcl_srtZip {xs ys : List Int} {Φ : List D → Prop} (hl : xs.length = ys.length) (q : Φ ((srtP (xs.zip ys)).map dP)) : rdcl K b (rSrtZip K) [.lst (xs.map D.int), .lst (ys.map D.int)] Φ := fun F H vs w d Q k => by
  cases d with
  | cons d1 d => cases d with
    | cons d2 d =>
      cases d
      cases d1 with
      | lst s1 a1 => cases d2 with
        | lst s2 a2 =>
          have e1 := a1.ints
          have e2 := a2.ints
          subst e1 e2
          refine ⟨_, _, xs, ys, rfl, SqL.of (w.ex _ _ s1), SqL.of (w.ex _ _ s2), hl, fun H' p zs ex es hp hl' hz => ?_⟩
          classical
          let F' : Hp := fun c => if c ∈ zs.map (·.1) then H' c else F c
          have inz : ∀ c, c ∈ zs.map (·.1) → H c = none := fun c hc => by
            obtain ⟨z, hz', rfl⟩ := List.mem_map.mp hc
            exact (hz z hz').2.1
          have fo : ∀ c o, F c = some o → F' c = some o := fun c o e => by
            show (if c ∈ zs.map (·.1) then H' c else F c) = _
            rw [if_neg (fun hc => by rw [w.outN (inz c hc)] at e; cases e)]
            exact e
          have st : Step b F H F' H' := ⟨fo, fun a o _ e => ex a o e, fun a e1 e2 => by
            show (if a ∈ zs.map (·.1) then H' a else F a) = none
            rw [if_neg (fun hc => e2 (inz a hc))]; exact e1⟩
          have w' : Wd K b F' H' := ⟨fun a o e => by
              have e' : (if a ∈ zs.map (·.1) then H' a else F a) = some o := e
              by_cases hc : a ∈ zs.map (·.1)
              · rw [if_pos hc] at e'; exact e'
              · rw [if_neg hc] at e'; exact ex a o (w.ex a o e'), fun a c e => by
              have B := w.bag a c e
              obtain ⟨x, y, z, e1, r⟩ := B.bag
              obtain ⟨ns, s, q⟩ := B.cell
              refine ⟨?_, ⟨x, y, z, ex _ _ e1, r⟩, ⟨ns, exL fo s, q⟩⟩
              show (if a ∈ zs.map (·.1) then H' a else F a) = none
              rw [if_neg (fun hc => by rw [inz a hc] at e1; cases e1)]
              exact B.out⟩
          refine k p _ F' H' _ st w' hp ?_ hl' (dva_pairs fun z hz' => ?_) (by rw [es]; exact q)
          · show (if p ∈ zs.map (·.1) then H' p else F p) = none
            rw [if_neg (fun hc => by
              obtain ⟨z, hz', e⟩ := List.mem_map.mp hc
              exact (hz z hz').1 e)]
            exact w.outN hp
          · show (if z.1 ∈ zs.map (·.1) then H' z.1 else F z.1) = _
            rw [if_pos (List.mem_map.mpr ⟨z, hz', rfl⟩)]
            exact (hz z hz').2.2
theorem srtP_perm (l : List (Int × Int)) : (srtP l).Perm l := List.mergeSort_perm _ _
theorem leP {p q : Int × Int} (h : PySem.W.dataLe false encP p q = true) : p.1 ≤ q.1 := by
  have h' : (!PySem.W.dataLt (encP q) (encP p)) = true := h
  unfold encP at h'
  rw [PySem.W.dataLt_tuple, PySem.W.dataLt_cons (by simp [PySem.W.alike]), PySem.W.dataLt_int] at h'
  have z1 : PyData.eqv (.int q.1) (.int p.1) = decide (q.1 = p.1) := by show (q.1 == p.1) = _; rfl
  rw [z1] at h'
  by_cases e : q.1 = p.1
  · omega
  · rw [if_neg (by simpa using e)] at h'
    have : ¬ q.1 < p.1 := by simpa using h'
    omega
theorem srtP_pw (l : List (Int × Int)) : (srtP l).Pairwise fun p q => p.1 ≤ q.1 := by
  have T : PySem.W.TotalLe (PySem.W.dataLe false encP) := PySem.W.sortLe_total (listOrd itemOrd) false fun d : Int × Int => PySem.W.keyToks (encP d)
  refine List.Pairwise.imp (fun h => leP h) (List.pairwise_mergeSort (le := PySem.W.dataLe false encP) (fun a b c h1 h2 => T.trans _ _ _ h1 h2) (fun a b => ?_) l)
  rcases T.total a b with h | h
  · rw [h]; rfl
  · rw [h, Bool.or_true]
end
end DL

namespace GL
open PySem PySem.Spec PyProof.Rows L2
section
variable {X : Cx} {k : Nat} {f C : Addr} {fd : FuncData} {ps : List Str} {sp : Sp} {E : XK} {x m : Str} {p pos apos : Pos} {e o : Expr} {es : List Expr} {ta : TE} {t : TA}
theorem pe_methG {pl : Sem Bool} (he : PE X o ta) (c : Cls X.K C) (hm : Meth X.K C m f) (F : FnG X.prog X.w X.K X.mg X.base k f fd ps sp) (hg : X.A.guards = some []) (hr : Room k X.A) (hb : Binds X.K fd ps []) (hx : Passes CX0 X E) (ha : PA X (e :: es) t)
    (hst : starEach (e :: es) X.env = (false, eval e X.env) :: starEach es X.env := by rfl) (hpl : (backTo pos (starEach es X.env)).any (·.1) = false := by rfl)
    (ht : eval (.Call (.Attribute o m apos) (e :: es) [] pos) X.env = (do
      let ov ← eval o X.env
      standAt apos.atName
      let (f, first) ← holding [ov] (getMethod ov m pl)
      callWith pos f first (backTo pos (starEach (e :: es) X.env)) (backToKw pos (keywordEach [] X.env))) := by rfl) :
    PE X (.Call (.Attribute o m apos) (e :: es) [] pos) (tMeth C m sp [] E ta t) := by
  refine ⟨fun pins s σ H Q I h => ?_⟩
  refine PySem.W.methodCall_KW (pl := pl) (thn (he.run pins s σ H _ I h) fun u s1 ⟨x, H1, I1, rx, a, dx, fs, ex, ea, l, q⟩ => ?_) ht
  subst ex
  obtain rfl : u = Value.ref a := rx
  refine getmeth_ok I1 ea c hm l ?_
  refine PySem.W.callWith_K (first := [.ref a]) (h₀ := X.base) I.ok.mod.kin hm.kp (thn (ha.run pos pins s1 σ H1 _ I1 q) fun us s2 ⟨vs, H2, I2, r, q2⟩ => ⟨I2.kIn, ?_⟩) hst hpl
  have q2' : sp (.ref a :: (vs ++ [])) H2 Q E := q2
  rw [List.append_nil] at q2'
  exact runG (us := .ref a :: us) (vs := .ref a :: vs) F hg hr hb hx I2 (.cons rfl r) q2'
theorem pe_meth0G {pl : Sem Bool} (he : PE X o ta) (c : Cls X.K C) (hm : Meth X.K C m f) (F : FnG X.prog X.w X.K X.mg X.base k f fd ps sp) (hg : X.A.guards = some []) (hr : Room k X.A) (hb : Binds X.K fd ps []) (hx : Passes CX0 X E)
    (ht : eval (.Call (.Attribute o m apos) [] [] pos) X.env = (do
      let ov ← eval o X.env
      standAt apos.atName
      let (f, first) ← holding [ov] (getMethod ov m pl)
      callWith pos f first (backTo pos (starEach [] X.env)) (backToKw pos (keywordEach [] X.env))) := by rfl) :
    PE X (.Call (.Attribute o m apos) [] [] pos) (tMeth C m sp [] E ta tNil) := by
  refine ⟨fun pins s σ H Q I h => ?_⟩
  refine PySem.W.methodCall_KW (pl := pl) (thn (he.run pins s σ H _ I h) fun u s1 ⟨x, H1, I1, rx, a, dx, fs, ex, ea, l, q⟩ => ?_) ht
  subst ex
  obtain rfl : u = Value.ref a := rx
  refine getmeth_ok I1 ea c hm l ?_
  exact PySem.W.callWith_K0 (first := [.ref a]) I1.kIn hm.kp (runG (us := [.ref a]) (vs := [.ref a]) F hg hr hb hx I1 (.cons rfl .nil) q)
theorem run_makeG {pins : List (Addr × Obj)} {σ : L2.St} {H : Hp} {s : Shared} {Q : VK} {us : List Value} {vs : List V} (M : Mk X.K C f) (F : FnG X.prog X.w X.K X.mg X.base k f fd ps sp) (hg : X.A.guards = some []) (hr : Room (k + 1) X.A) (hb : Binds X.K fd ps [])
    (hx : Passes CX0 X E) (I : Inv X pins σ H s) (r : Vals vs us)
    (h : ∀ x dx, H x = none → H dx = none → dx ≠ x → sp (.ref x :: vs) (upd (upd H dx (.own x)) x (.ins C dx [])) (fun v H2 => v = .non ∧ Q (.ref x) H2) E) :
    wpAny (model X.prog X.w) X.A (call (.ref C) us) (EP X pins σ Q) X.xe s := by
  have hq := h (s.heap.objs.size + 1) s.heap.objs.size (I.hok.fresh (Nat.le_succ _)) (I.hok.fresh (Nat.le_refl _)) (Nat.ne_of_lt (Nat.lt_succ_self _))
  have I2 := Inv.made (C := C) I
  have r2 : Vals (V.ref (s.heap.objs.size + 1) :: vs) (Value.ref (s.heap.objs.size + 1) :: us) := .cons rfl r
  have hl : (Value.ref (s.heap.objs.size + 1) :: us ++ []).length = ps.length := by
    have e := r2.length
    rw [F.ln _ _ _ _ hq] at e
    rw [List.append_nil]
    exact e.symm
  have hbb := hb { s with heap := (s.heap.push PySem.W.emptyDict).push (PySem.W.instObj C s.heap.objs.size) } (Value.ref (s.heap.objs.size + 1) :: us) I2.kIn hl
  rw [List.append_nil] at hbb
  refine wpAny_call (make_map (f := f) I.kIn M.makes M.init (beq_iff_eq.mp M.fn) (codeAny_mono (F.go _ X.stack _ _ ⟨Value.ref (s.heap.objs.size + 1) :: us, []⟩ (Value.ref (s.heap.objs.size + 1) :: us) _ _ E hg (hr.make C us [])
    (I2.env0.make C us []) hbb r2 hq) fun r s' hq' => ?_))
  cases r with
  | error e => exact hx pins σ _ _ e s' I2 hq'
  | ok fl =>
    cases fl with
    | ret u =>
      obtain ⟨v, H', I3, rv, ev, q3⟩ := I2.after hq'
      subst ev
      exact ⟨rv, ⟨V.ref (s.heap.objs.size + 1), H', I3, rfl, q3⟩⟩
    | next => exact False.elim hq'
    | brk => exact False.elim hq'
    | cont => exact False.elim hq'
theorem pe_makeG (M : Mk X.K C f) (F : FnG X.prog X.w X.K X.mg X.base k f fd ps sp) (hg : X.A.guards = some []) (hr : Room (k + 1) X.A) (hgl : Gl X x) (hm : X.mg x = some (.ref C)) (hb : Binds X.K fd ps []) (hx : Passes CX0 X E)
    (ha : PA X (e :: es) t) (hdb : (x == ("__debug__" : Str)) = false := by decide) (he : starEach (e :: es) X.env = (false, eval e X.env) :: starEach es X.env := by rfl) (hpl : (backTo pos (starEach es X.env)).any (·.1) = false := by rfl) :
    PE X (.Call (.Name x p) (e :: es) [] pos) (tMake C sp [] E t) := by
  refine ⟨fun pins s σ H Q I h => ?_⟩
  refine wpAny_Call_Name_kw (ld_glob I hgl hm ?_ hdb)
  refine PySem.W.callWith_K (h₀ := X.base) I.ok.mod.kin M.kp (thn (ha.run pos pins s σ H _ I h) fun us s1 ⟨vs, H1, I1, r, q⟩ => ⟨I1.kIn, ?_⟩) he hpl
  refine run_makeG M F hg hr hb hx I1 r fun x dx h1 h2 h3 => ?_
  have q' := q x dx h1 h2 h3
  rw [List.append_nil] at q'
  exact q'
end
end GL
namespace DL
open PySem PySem.Spec PyProof.Rows L2
section
variable {K : PySem.W.Frag} {b : Bg} {E : Env'} {ta tb te : TE} {t : TS} {P : Po} {Φ : D → Prop}
/-! attributes and methods of an instance that is data -/
theorem ins_look {F : Hp} {f : Str} {d : D} : ∀ {fs : List (Str × V)} {ds : List D}, DvA K b F (fs.map (·.2)) ds → ((fs.map (·.1)).zip ds).lookup f = some d → ∃ v, fs.lookup f = some v ∧ Dv K b F v d
  | [], _, h, e => by cases h; cases e
  | (g, v) :: fs, _, h, e => by
    cases h with
    | @cons _ _ d' ds x y =>
      show ∃ w, List.lookup f ((g, v) :: fs) = some w ∧ _
      have e' : List.lookup f ((g, d') :: (fs.map (·.1)).zip ds) = some d := e
      unfold List.lookup at e' ⊢
      cases hg : f == g with
      | true => rw [hg] at e'; cases e'; exact ⟨v, rfl, x⟩
      | false => rw [hg] at e'; exact ins_look y e'
theorem ins_no {f : Str} : ∀ {fs : List (Str × V)}, f ∉ fs.map (·.1) → fs.lookup f = none
  | [], _ => rfl
  | (g, v) :: fs, h => by
    have h1 : f ≠ g := fun z => h (by simp [z])
    have h2 : f ∉ fs.map (·.1) := fun z => h (List.mem_cons_of_mem _ z)
    show List.lookup f ((g, v) :: fs) = none
    unfold List.lookup
    rw [beq_eq_false_iff_ne.mpr h1]
    exact ins_no h2
theorem wpe_fld {C : Addr} {f : Str} (c : Cls K C) (n : NoAttr K C f) (h : wpe K b ta E fun x => ∃ ns ds d, x = .obj C ns ds ∧ (ns.zip ds).lookup f = some d ∧ Φ d) : wpe K b (tFld K ta f) E Φ := fun H0 F H σ w e Q k =>
  h H0 F H σ w e _ fun v F1 H1 x s1 w1 d1 p1 => by
    obtain ⟨ns, ds, d, rfl, hl, q⟩ := p1
    cases d1 with
    | @obj a _ dx fs _ s a' =>
      obtain ⟨u, h1, h2⟩ := ins_look a' hl
      exact ⟨a, C, dx, fs, u, rfl, w1.ex _ _ s, c, n, h1, k u F1 H1 d s1 w1 h2 q⟩
theorem wpe_meth {C : Addr} {m : Str} {n : Nat} {pre : Bg → List D → Prop} {post : List D → D → Prop} {EE : XK} {tr : TA}
    (h : wpe K b ta E fun x => ∃ ns ds, x = .obj C ns ds ∧ m ∉ ns ∧ wpa K b tr E fun xs => xs.length + 1 = n ∧ pre b (x :: xs) ∧ ∀ y, post (x :: xs) y → Φ y) : wpe K b (tMeth C m (Sd K n pre post) [] EE ta tr) E Φ := fun H0 F H σ w e Q k =>
  h H0 F H σ w e _ fun v F1 H1 x s1 w1 d1 p1 => by
    obtain ⟨ns, ds, rfl, hn, p2⟩ := p1
    have d1' := d1
    cases d1 with
    | @obj a _ dx fs _ s a' =>
      refine ⟨a, dx, fs, rfl, w1.ex _ _ s, ins_no hn, p2 H0 F1 H1 σ w1 (e.step s1) _ fun vs F2 H2 xs s2 w2 d2 q => ?_⟩
      rw [List.append_nil]
      exact ⟨b, F2, _, by rw [List.length_cons, d2.len, q.1], w2, .cons (d1'.up s2.ex) d2, q.2.1, fun v F' H' y s w' d z => k v F' H' y ((s1.trans s2 w1).trans s w2) w' d (q.2.2 y z)⟩
theorem wpl_meth {C : Addr} {m : Str} {n : Nat} {pre : Bg → List D → Prop} {post : List D → List D → Prop} {EE : XK} {tr : TA} {Φ : List D → Prop}
    (h : wpe K b ta E fun x => ∃ ns ds, x = .obj C ns ds ∧ m ∉ ns ∧ wpa K b tr E fun xs => xs.length + 1 = n ∧ pre b (x :: xs) ∧ ∀ y, post (x :: xs) y → Φ y) : wpl K b (tMeth C m (Sl K n pre post) [] EE ta tr) E Φ := fun H0 F H σ w e Q k =>
  h H0 F H σ w e _ fun v F1 H1 x s1 w1 d1 p1 => by
    obtain ⟨ns, ds, rfl, hn, p2⟩ := p1
    have d1' := d1
    cases d1 with
    | @obj a _ dx fs _ s a' =>
      refine ⟨a, dx, fs, rfl, w1.ex _ _ s, ins_no hn, p2 H0 F1 H1 σ w1 (e.step s1) _ fun vs F2 H2 xs s2 w2 d2 q => ?_⟩
      rw [List.append_nil]
      refine ⟨b, F2, _, by rw [List.length_cons, d2.len, q.1], w2, .cons (d1'.up s2.ex) d2, q.2.1, fun p us F' H' es s w' n1 n2 n3 d z => ?_⟩
      exact k p us F' H' es ((s1.trans s2 w1).trans s w2) w' ((s1.trans s2 w1).fresh w2 n1) n2 n3 d (q.2.2 es z)
/-! isinstance -/
def tyD : D → Option String
  | .non => some "NoneType" | .bl _ => some "bool" | .int _ => some "int" | .str _ => some "str" | .lst _ => some "list" | _ => none
theorem wpe_isi {T : String} (h : wpe K b ta E fun x => ∃ S c, tyD x = some S ∧ PySem.W.kitOne K (.type S) (.type T) = some c ∧ Φ (.bl c)) : wpe K b (tCB (rIsi K) (tCons ta (tCons (tC (.ty T)) tNil))) E Φ := fun H0 F H σ w e Q k =>
  h H0 F H σ w e _ fun v F1 H1 x s1 w1 d1 p1 => by
    obtain ⟨S, c, hS, hk, q⟩ := p1
    have ty : TyX K H1 v (.type S) := by
      cases d1 with
      | non => cases hS; exact .base .non
      | bl c => cases hS; exact .base (.bl _)
      | int i => cases hS; exact .base (.int _)
      | str x => cases hS; exact .base (.str _)
      | lst e a => cases hS; exact .base (.lst (w1.ex _ _ e))
      | tup s a => cases hS
      | obj s a => cases hS
      | bag s => cases hS
      | fn a => cases hS
    exact ⟨v, .ty T, .type S, .type T, c, rfl, .ty T, ty, hk, k _ F1 H1 _ s1 w1 (.bl c) q⟩
/-! a slot that stands for an object being made -/
theorem envI {H0 F H : Hp} {p : Addr} {v1 v2 : V} {d1 d2 : D} (h1 : Dv K b F v1 d1) (h2 : Dv K b F v2 d2) : EnvD K b H0 F H [some (.ref p), some v1, some v2] [.u, .d d1, .d d2] := by
  refine ⟨rfl, fun i x e => ?_, fun i ds e => ?_, fun i j ds es r e => ?_⟩
  · match i, e with
    | 0, e => cases e
    | 1, e => cases e; exact ⟨_, rfl, h1⟩
    | 2, e => cases e; exact ⟨_, rfl, h2⟩
  · match i, e with
    | 0, e => cases e
    | 1, e => cases e
    | 2, e => cases e
  · match i, e with
    | 0, e => cases e
    | 1, e => cases e
    | 2, e => cases e
theorem kc : ¬ (("_weights" : Str) = "_quotas") := by decide +kernel
abbrev cNames : List Str := ["_weights", "_quotas"]
/-- a Council as data -/
def dC (C : Addr) (ws qs : List Int) : D := .obj C cNames [.lst (ws.map D.int), .lst (qs.map D.int)]
/-- Council.__init__'s promise -/
def spInit (K : PySem.W.Frag) (C : Addr) (ok : List Int → List Int → Prop) : Sp := fun vs H Q _ => ∃ (b : Bg) (F : Hp) (p dx : Addr) (v1 v2 : V) (ws qs : List Int), vs = [.ref p, v1, v2] ∧ Wd K b F H ∧ F p = none ∧ (∀ c, b ≠ some (p, c)) ∧ H p = some (.ins C dx []) ∧
  Dv K b F v1 (.lst (ws.map D.int)) ∧ Dv K b F v2 (.lst (qs.map D.int)) ∧ ok ws qs ∧
  ∀ F' H' a1 a2, Ex F F' → (∀ a o, a ≠ p → (∀ c, b ≠ some (a, c)) → H a = some o → H' a = some o) → (∀ a, F a = none → H a ≠ none → F' a = none) → Wd K b F' H' →
    H' p = some (.ins C dx [("_weights", .ref a1), ("_quotas", .ref a2)]) → Dv K b F' (.ref a1) (.lst (ws.map D.int)) → Dv K b F' (.ref a2) (.lst (qs.map D.int)) → H a1 = none → H a2 = none → Q .non H'
theorem wpe_make {C : Addr} {ok : List Int → List Int → Prop} {EE : XK} {tr : TA} (h : wpa K b tr E fun xs => ∃ ws qs, xs = [.lst (ws.map D.int), .lst (qs.map D.int)] ∧ ok ws qs ∧ Φ (dC C ws qs)) : wpe K b (tMake C (spInit K C ok) [] EE tr) E Φ := fun H0 F H σ w e Q k =>
  h H0 F H σ w e _ fun vs F1 H1 xs s1 w1 d1 p1 => by
    obtain ⟨ws, qs, rfl, hok, q⟩ := p1
    cases d1 with
    | cons x1 d1 => cases d1 with
      | cons x2 d1 =>
        cases d1
        rename_i v1 v2
        intro p dx hp hdx hne
        have F1p := w1.outN hp
        obtain ⟨w2, s2⟩ := w1.newO (o := .own p) hdx
        have hp2 : (upd H1 dx (.own p)) p = none := by rw [upd_ne (fun z => hne z.symm)]; exact hp
        obtain ⟨w3, s3⟩ := w2.newO (o := .ins C dx []) hp2
        refine ⟨b, F1, p, dx, v1, v2, ws, qs, rfl, w3, F1p, w1.nb hp, upd_same, x1, x2, hok, fun F' H' a1 a2 ex keep out w' hi e1 e2 _ _ => ⟨rfl, ?_⟩⟩
        have F'p : F' p = none := out p F1p (by rw [upd_same]; exact fun z => nomatch z)
        have st : Step b F1 H1 (upd F' p (.ins C dx [("_weights", .ref a1), ("_quotas", .ref a2)])) H' := by
          refine ⟨ex.trans (Ex.new F'p), fun a o nb ha => ?_, fun a h1 h2 => ?_⟩
          · have hap : a ≠ p := ne_of_none ha hp
            exact keep a o hap nb (by rw [upd_ne hap, upd_ne (ne_of_none ha hdx)]; exact ha)
          · have hap : a ≠ p := fun z => h2 (by rw [z]; exact hp)
            rw [upd_ne hap]
            exact out a h1 (by
              rw [upd_ne hap]
              by_cases z : a = dx
              · rw [z, upd_same]; exact fun z => nomatch z
              · rw [upd_ne z]; exact h2)
        refine k _ _ H' _ (s1.trans st w1) (w'.frz F'p hi (w1.nb hp)) ?_ q
        exact .obj (fs := [("_weights", .ref a1), ("_quotas", .ref a2)]) upd_same (.cons (e1.up (Ex.new F'p)) (.cons (e2.up (Ex.new F'p)) .nil))
/-- a new list, data at once, and new -/
theorem wpl_frz {t : TE} {Φ : List D → Prop} (h : wpl K b t E Φ) : ∀ H0 F H σ, Wd K b F H → EnvD K b H0 F H σ E → ∀ Q : VK, (∀ p F' H' ds, Step b F H F' H' → Wd K b F' H' → H p = none → Dv K b F' (.ref p) (.lst ds) → Φ ds → Q (.ref p) H') → t σ H Q := fun H0 F H σ w e Q k =>
  h H0 F H σ w e _ fun p us F1 H1 ds s1 w1 n1 f1 h1 d1 q => by
    refine k p _ H1 ds ?_ (w1.frz f1 h1 (w.nb n1)) n1 (.lst upd_same (d1.up (Ex.new f1))) q
    exact ⟨s1.ex.trans (Ex.new f1), s1.keep, fun a h1 h2 => by
      rw [upd_ne (fun z => h2 (by rw [z]; exact n1))]; exact s1.out a h1 h2⟩
/-- Council.__init__ -/
theorem r_init {C : Addr} {ok : List Int → List Int → Prop} {c1 c2 : TT} {l1 l2 : TE} {vs : List V} {H : Hp} {Q : VK} {EE : XK} (c : Cls K C) (n1 : NoAttr K C "_weights") (n2 : NoAttr K C "_quotas")
    (h1 : ∀ b ws qs, ok ws qs → wpt K b c1 [.u, .d (.lst (ws.map D.int)), .d (.lst (qs.map D.int))] fun r => r = false)
    (h2 : ∀ b ws qs, ok ws qs → wpt K b c2 [.u, .d (.lst (ws.map D.int)), .d (.lst (qs.map D.int))] fun r => r = false)
    (h3 : ∀ b ws qs, ok ws qs → wpl K b l1 [.u, .d (.lst (ws.map D.int)), .d (.lst (qs.map D.int))] fun ds => ds = ws.map D.int)
    (h4 : ∀ b ws qs, ok ws qs → wpl K b l2 [.u, .d (.lst (ws.map D.int)), .d (.lst (qs.map D.int))] fun ds => ds = qs.map D.int)
    (h : spInit K C ok vs H Q EE) :
    (tSeq (tIfS c1 tNever tNext) (tSeq (tIfS c2 tNever tNext) (tSeq (sFld K (tVar 0) l1 "_weights") (sFld K (tVar 0) l2 "_quotas")))) { nx := fun _ H' => Q .non H', rt := Q } (L2.start ["self", "weights", "quotas"] vs) H := by
  obtain ⟨b, F, p, dx, v1, v2, ws, qs, rfl, w, Fp, nb, Hp, d1, d2, hok, q⟩ := h
  show (tSeq (tIfS c1 tNever tNext) (tSeq (tIfS c2 tNever tNext) (tSeq (sFld K (tVar 0) l1 "_weights") (sFld K (tVar 0) l2 "_quotas")))) { nx := fun _ H' => Q .non H', rt := Q } [some (.ref p), some v1, some v2] H
  refine h1 b ws qs hok H F H _ w (envI d1 d2) _ fun r F1 H1 s1 w1 e => ?_
  subst e
  refine (if_neg Bool.false_ne_true : (if false = true then _ else _) = _).symm ▸ ?_
  refine h2 b ws qs hok H F1 H1 _ w1 (envI (d1.up s1.ex) (d2.up s1.ex)) _ fun r F2 H2 s2 w2 e => ?_
  subst e
  refine (if_neg Bool.false_ne_true : (if false = true then _ else _) = _).symm ▸ ?_
  have s12 := s1.trans s2 w1
  refine wpl_frz (h3 b ws qs hok) H F2 H2 _ w2 (envI (d1.up s12.ex) (d2.up s12.ex)) _ fun p1 F3 H3 x s3 w3 m1 dd e => ?_
  subst e
  have s13 := s12.trans s3 w2
  have p3 := s13.keep p _ nb Hp
  have Fp3 := s13.out p Fp (by rw [Hp]; exact fun z => nomatch z)
  refine ⟨.ref p, rfl, p, C, dx, [], rfl, p3, c, n1, by decide, ?_⟩
  have w4 : Wd K b F3 (upd H3 p (.ins C dx (putF "_weights" (.ref p1) []))) := w3.turn Fp3 nb
  refine wpl_frz (h4 b ws qs hok) H F3 _ _ w4 (envI (d1.up s13.ex) (d2.up s13.ex)) _ fun p2 F5 H5 x s5 w5 m2 dd2 e => ?_
  subst e
  have Fp5 := s5.out p Fp3 (by rw [upd_same]; exact fun z => nomatch z)
  refine ⟨.ref p, rfl, p, C, dx, _, rfl, s5.keep p _ nb upd_same, c, n2, by show 1 < 1000; decide, ?_⟩
  have ep : putF "_quotas" (.ref p2) (putF "_weights" (.ref p1) []) = ([("_weights", .ref p1), ("_quotas", .ref p2)] : List (Str × V)) := by
    show (if ("_weights" : Str) = "_quotas" then [(("_weights" : Str), (.ref p2 : V))] else (("_weights" : Str), (.ref p1 : V)) :: putF "_quotas" (.ref p2) []) = _
    rw [if_neg kc]; rfl
  have np2 : p2 ≠ p := fun z => by rw [z, upd_same] at m2; cases m2
  show Q .non (upd H5 p (.ins C dx (putF "_quotas" (.ref p2) (putF "_weights" (.ref p1) []))))
  rw [ep]
  cases dd with
  | lst sa aa => cases dd2 with
    | lst sb ab =>
      refine q F5 _ _ _ (s13.ex.trans s5.ex) (fun a o ha nb' e => ?_) (fun a e1 e2 => ?_) (w5.turn Fp5 nb) upd_same ?_ ?_ (s12.fresh w2 m1) (s13.fresh w3 (by rw [upd_ne np2] at m2; exact m2))
      · rw [upd_ne ha]
        exact s5.keep a o nb' (by rw [upd_ne ha]; exact s13.keep a o nb' e)
      · refine s5.out a (s13.out a e1 e2) ?_
        by_cases z : a = p
        · rw [z, upd_same]; exact fun z => nomatch z
        · rw [upd_ne z]
          intro z2
          by_cases hb : ∃ c, b = some (a, c)
          · obtain ⟨c', hb⟩ := hb
            obtain ⟨_, _, _, e, _⟩ := (w3.bag a c' hb).bag
            rw [z2] at e; cases e
          · cases q' : H a with
            | none => exact e2 q'
            | some o =>
              have := s13.keep a o (fun c' e => hb ⟨c', e⟩) q'
              rw [z2] at this; cases this
      · exact (Dv.lst sa aa).up s5.ex
      · exact .lst sb ab
end
end DL

namespace DL
open PySem PySem.Spec PyProof.Rows L2
structure CF (K : PySem.W.Frag) (C : Addr) : Prop where
  cl : Cls K C
  nW : NoAttr K C "_weights"
  nQ : NoAttr K C "_quotas"
theorem bt_bool : bootBuiltins "bool" = some (.type "bool") := by decide +kernel
theorem no_weights : ("weights" : Str) ∉ cNames := by decide +kernel
theorem no_quotas : ("quotas" : Str) ∉ cNames := by decide +kernel
theorem no_width : ("width" : Str) ∉ cNames := by decide +kernel
theorem no_total : ("total" : Str) ∉ cNames := by decide +kernel
section
variable {X : Cx} {K : PySem.W.Frag}
theorem kMinL (hc : X.calm = true := by rfl) (h : X.K = K := by rfl) : CallR X (.builtin "min") (rMin K) := h ▸ cr_min hc
theorem kMaxL (hc : X.calm = true := by rfl) (h : X.K = K := by rfl) : CallR X (.builtin "max") (rMax K) := h ▸ cr_max hc
end
section
variable {K : PySem.W.Frag} {b : Bg} {E : Env'} {ta tb te : TE} {t : TS} {P : Po}
theorem rcMinL {ns : List Int} {Φ : D → Prop} (hl : 0 < ns.length) (q : ∀ m, m ∈ ns → (∀ y, y ∈ ns → m ≤ y) → Φ (.int m)) : rdc K b (rMin K) [.lst (ns.map D.int)] Φ := fun F H vs w d Q k => by
  cases d with
  | cons d1 d =>
    cases d
    cases d1 with
    | lst s a =>
      have e := a.ints
      subst e
      exact ⟨_, ns, rfl, SqL.of (w.ex _ _ s), hl, fun m h1 h2 => k _ F H _ .refl w (.int _) (q m h1 h2)⟩
/-! comprehensions of one and of two names -/
theorem get_snoc {α : Type} {l : List α} {x y : α} {j : Nat} (h : (l ++ [x])[j]? = some y) : l[j]? = some y ∨ (j = l.length ∧ y = x) := by
  rcases Nat.lt_trichotomy j l.length with h1 | h1 | h1
  · rw [List.getElem?_append_left h1] at h; exact .inl h
  · subst h1
    rw [List.getElem?_append_right (Nat.le_refl _), Nat.sub_self] at h
    exact .inr ⟨rfl, (Option.some.inj h).symm⟩
  · rw [List.getElem?_eq_none (by rw [List.length_append]; show l.length + 1 ≤ j; omega)] at h; cases h
theorem wpl_gen1 {wi : TI} {i : Nat} {R : Nat → D → Prop} {Φ : List D → Prop} (h : wpi K b wi E fun ds => ds.length ≤ 100000 ∧ (∀ j d, ds[j]? = some d → wpe K b te ((wipeE E [i]).set i (.d d)) fun y => R j y) ∧ ∀ acc, acc.length = ds.length → (∀ j y, acc[j]? = some y → R j y) → Φ acc) :
    wpl K b (tLc wi (gName i) tYes te [i]) E Φ := by
  refine wpl_lc fun H0 F H σ w e Q k => h H0 F H σ w e Q fun J F' H' ds s w' it q => k J F' H' ds s w' it ⟨q.1, fun n acc => acc.length = n ∧ ∀ j y, acc[j]? = some y → R j y, ⟨rfl, fun j y z => by simp at z⟩, fun j d acc hd hl hI => ?_, fun acc hI => q.2.2 acc hI.1 hI.2⟩
  refine wpg_name (by simp) (wpt_yes (ifT ((q.2.1 j d hd).mono fun y hy => ⟨by rw [List.length_append, hI.1]; rfl, fun j' y' z => ?_⟩)))
  rcases get_snoc z with z | ⟨z1, rfl⟩
  · exact hI.2 j' y' z
  · rw [z1, hI.1]; exact hy
theorem wpl_gen2 {wi : TI} {i1 i2 : Nat} {R : Nat → D → Prop} {Φ : List D → Prop} (h : wpi K b wi E fun ds => ds.length ≤ 100000 ∧ (∀ j d, ds[j]? = some d → ∃ x y, d = .tup [x, y] ∧ wpe K b te (((wipeE E [i1, i2]).set i1 (.d x)).set i2 (.d y)) fun y => R j y) ∧ ∀ acc, acc.length = ds.length → (∀ j y, acc[j]? = some y → R j y) → Φ acc) :
    wpl K b (tLc wi (gTup K 2 (gCons (gName i1) (gCons (gName i2) gNil))) tYes te [i1, i2]) E Φ := by
  refine wpl_lc fun H0 F H σ w e Q k => h H0 F H σ w e Q fun J F' H' ds s w' it q => k J F' H' ds s w' it ⟨q.1, fun n acc => acc.length = n ∧ ∀ j y, acc[j]? = some y → R j y, ⟨rfl, fun j y z => by simp at z⟩, fun j d acc hd hl hI => ?_, fun acc hI => q.2.2 acc hI.1 hI.2⟩
  obtain ⟨x, y, rfl, hw⟩ := q.2.1 j d hd
  refine wpg_tup (by rfl) (wpgs_cons (wpg_name (by simp) (wpgs_cons (wpg_name (by simp) (wpgs_nil ?_)))))
  refine wpt_yes (ifT (hw.mono fun y hy => ⟨by rw [List.length_append, hI.1]; rfl, fun j' y' z => ?_⟩))
  rcases get_snoc z with z | ⟨z1, rfl⟩
  · exact hI.2 j' y' z
  · rw [z1, hI.1]; exact hy
theorem list_of_get {α : Type} {l m : List α} (hl : l.length = m.length) (h : ∀ (j : Nat) (y : α), l[j]? = some y → m[j]? = some y) : l = m := by
  refine List.ext_getElem? fun j => ?_
  cases e : l[j]? with
  | some y => exact (h j y e).symm
  | none =>
    have : l.length ≤ j := List.getElem?_eq_none_iff.mp e
    exact (List.getElem?_eq_none (by omega)).symm
/-- every item is an int with R -/
theorem ints_of {l : List D} {R : Nat → Int → Prop} (h : ∀ j y, l[j]? = some y → ∃ n : Int, y = .int n ∧ R j n) : ∃ ns : List Int, l = ns.map D.int ∧ ∀ j n, ns[j]? = some n → R j n := by
  induction l generalizing R with
  | nil => exact ⟨[], rfl, fun j n z => by simp at z⟩
  | cons d l ih =>
    obtain ⟨n, rfl, hn⟩ := h 0 d rfl
    obtain ⟨ns, rfl, hns⟩ := ih (R := fun j => R (j + 1)) fun j y z => h (j + 1) y (by simpa using z)
    refine ⟨n :: ns, rfl, fun j m z => ?_⟩
    cases j with
    | zero => simp at z; rw [← z]; exact hn
    | succ j => exact hns j m (by simpa using z)
theorem maps_of {α : Type} {l : List D} {f : α → D} {R : Nat → α → Prop} (h : ∀ j y, l[j]? = some y → ∃ n : α, y = f n ∧ R j n) : ∃ ns : List α, l = ns.map f ∧ ∀ j n, ns[j]? = some n → R j n := by
  induction l generalizing R with
  | nil => exact ⟨[], rfl, fun j n z => by simp at z⟩
  | cons d l ih =>
    obtain ⟨n, rfl, hn⟩ := h 0 d rfl
    obtain ⟨ns, rfl, hns⟩ := ih (R := fun j => R (j + 1)) fun j y z => h (j + 1) y (by simpa using z)
    refine ⟨n :: ns, rfl, fun j m z => ?_⟩
    cases j with
    | zero => simp at z; rw [← z]; exact hn
    | succ j => exact hns j m (by simpa using z)
/-- x, xs = e, [] -/
theorem wps_asg_e {i j : Nat} (hij : i ≠ j) (h : wpe K b ta E fun x => P.nx ((E.set i (.d x)).set j (.o []))) : wps K b (tAsg (tTup (tCons ta (tCons (tLst tNil) tNil))) (gTup K 2 (gCons (gName i) (gCons (gName j) gNil)))) E P := fun F0 H0 F H σ s w e Dn k => by
  refine h H0 F H σ w e _ fun v F1 H1 x s1 w1 d1 p1 => ⟨Nat.zero_le _, fun q hq => ⟨by show 2 ≤ sizeLine; decide, fun p hp => ?_⟩⟩
  obtain ⟨w2, s2⟩ := w1.newO (o := .lst []) hq
  obtain ⟨w3, s3⟩ := w2.newO (o := .tup [v, .ref q]) hp
  have hpq : p ≠ q := fun z => by rw [z, upd_same] at hp; cases hp
  refine ⟨p, [v, .ref q], rfl, .inl (.inl upd_same), rfl, ?_⟩
  refine ⟨_, _, rfl, ?_⟩
  refine ⟨_, _, rfl, rfl, ?_⟩
  have s13 := (s1.trans s2 w1).trans s3 w2
  have e3 := (e.step s13).setD (i := i) d1
  have hq0 : H q = none := s1.fresh w1 hq
  refine k.nx _ F1 _ _ s13.ex (s.trans s13 w) w3 (e3.setO (p := q) (vs := []) (ds := []) (s.fresh w hq0) (w1.outN hq) (w1.nb hq) (by rw [upd_ne (fun z => hpq z.symm)]; exact upd_same) .nil fun j' es hj' ej' z => ?_) p1
  rcases set_get ej' with ⟨_, z2⟩ | ⟨hne, z2⟩
  · cases z2
  · rw [List.getElem?_set_ne hne] at z
    obtain ⟨p', us, h1, _, _, _, h5, _⟩ := e.own j' es z2
    rw [h1] at z
    cases z
    rw [hq0] at h5; cases h5
end
theorem sum_bounds {ws : List Int} (hl : 2 ≤ ws.length ∧ ws.length ≤ 7) (h : ∀ x ∈ ws, 1 ≤ x ∧ x ≤ 1000000) : 1 ≤ ws.sum ∧ ws.sum ≤ 7000000 := by
  have g : ∀ (l : List Int), (∀ x ∈ l, 1 ≤ x ∧ x ≤ 1000000) → (l.length : Int) ≤ l.sum ∧ l.sum ≤ 1000000 * l.length := fun l => by
    induction l with
    | nil => intro _; exact ⟨Int.le_refl _, Int.le_refl _⟩
    | cons x l ih =>
      intro h
      have h1 := ih fun y hy => h y (List.mem_cons_of_mem _ hy)
      have h2 := h x List.mem_cons_self
      rw [List.sum_cons, List.length_cons]
      omega
  have := g ws h
  omega
/-! weights at most an entry -/
def wz (zs : List (Int × Int)) (e : Int) : Int := ((zs.filter fun p => decide (p.1 ≤ e)).map (·.2)).sum
theorem wz_nil (e : Int) : wz [] e = 0 := rfl
theorem wz_cons (p : Int × Int) (zs : List (Int × Int)) (e : Int) : wz (p :: zs) e = (if p.1 ≤ e then p.2 else 0) + wz zs e := by
  unfold wz
  by_cases h : p.1 ≤ e
  · rw [List.filter_cons_of_pos (by simpa using h), if_pos h]; rfl
  · rw [List.filter_cons_of_neg (by simpa using h), if_neg h, Int.zero_add]
theorem wz_append (xs ys : List (Int × Int)) (e : Int) : wz (xs ++ ys) e = wz xs e + wz ys e := by
  induction xs with
  | nil => rw [wz_nil, Int.zero_add]; rfl
  | cons p xs ih => rw [List.cons_append, wz_cons, wz_cons, ih, Int.add_assoc]
theorem wz_perm {xs ys : List (Int × Int)} (h : xs.Perm ys) (e : Int) : wz xs e = wz ys e := by
  induction h with
  | nil => rfl
  | cons x _ ih => rw [wz_cons, wz_cons, ih]
  | swap x y l => rw [wz_cons, wz_cons, wz_cons, wz_cons]; omega
  | trans _ _ h1 h2 => rw [h1, h2]
theorem sum_perm {xs ys : List Int} (h : xs.Perm ys) : xs.sum = ys.sum := by
  induction h with
  | nil => rfl
  | cons x _ ih => rw [List.sum_cons, List.sum_cons, ih]
  | swap x y l => rw [List.sum_cons, List.sum_cons, List.sum_cons, List.sum_cons]; omega
  | trans _ _ h1 h2 => rw [h1, h2]
theorem wz_bounds {zs : List (Int × Int)} (e : Int) (h : ∀ p ∈ zs, 0 ≤ p.2) : 0 ≤ wz zs e ∧ wz zs e ≤ (zs.map (·.2)).sum := by
  induction zs with
  | nil => exact ⟨Int.le_refl _, Int.le_refl _⟩
  | cons p zs ih =>
    have h1 := ih fun q hq => h q (List.mem_cons_of_mem _ hq)
    have h2 := h p List.mem_cons_self
    rw [wz_cons, List.map_cons, List.sum_cons]
    split <;> omega
theorem wz_all {zs : List (Int × Int)} {e : Int} (h : ∀ p ∈ zs, p.1 ≤ e) : wz zs e = (zs.map (·.2)).sum := by
  induction zs with
  | nil => rfl
  | cons p zs ih =>
    rw [wz_cons, if_pos (h p List.mem_cons_self), ih fun q hq => h q (List.mem_cons_of_mem _ hq), List.map_cons, List.sum_cons]
theorem wz_none {zs : List (Int × Int)} {e : Int} (h : ∀ p ∈ zs, e < p.1) : wz zs e = 0 := by
  induction zs with
  | nil => rfl
  | cons p zs ih =>
    have := h p List.mem_cons_self
    rw [wz_cons, if_neg (by omega), ih fun q hq => h q (List.mem_cons_of_mem _ hq), Int.add_zero]
/-- m is the least of the entries at which the weights reach the quota -/
def isLeast (es ws : List Int) (q m : Int) : Prop := m ∈ es ∧ q ≤ wz (es.zip ws) m ∧ ∀ e ∈ es, q ≤ wz (es.zip ws) e → m ≤ e
theorem isLeast_one {es ws : List Int} {q m n : Int} (h1 : isLeast es ws q m) (h2 : isLeast es ws q n) : m = n := by
  have := h1.2.2 n h2.1 h2.2.1
  have := h2.2.2 m h1.1 h1.2.1
  omega
theorem isLeast_of {es ws : List Int} {q : Int} {A B : List (Int × Int)} {x : Int × Int} (hl : es.length = ws.length) (hp : (A ++ x :: B).Perm (es.zip ws)) (hs : (A ++ x :: B).Pairwise fun p q => p.1 ≤ q.1) (hw : ∀ w ∈ ws, 0 ≤ w)
    (h1 : (A.map (·.2)).sum < q) (h2 : q ≤ (A.map (·.2)).sum + x.2) : isLeast es ws q x.1 := by
  have nn : ∀ p ∈ A ++ x :: B, 0 ≤ p.2 := fun p hpm => by
    have := hp.mem_iff.mp hpm
    exact hw _ (List.of_mem_zip this).2
  rw [List.pairwise_append] at hs
  obtain ⟨hA, hB, hAB⟩ := hs
  rw [List.pairwise_cons] at hB
  have eA : ∀ e, wz (es.zip ws) e = wz A e + ((if x.1 ≤ e then x.2 else 0) + wz B e) := fun e => by rw [← wz_perm hp, wz_append, wz_cons]
  have bA := fun e => wz_bounds (zs := A) e fun p hp => nn p (List.mem_append_left _ hp)
  have bB := fun e => wz_bounds (zs := B) e fun p hp => nn p (List.mem_append_right _ (List.mem_cons_of_mem _ hp))
  refine ⟨(List.of_mem_zip (hp.mem_iff.mp (List.mem_append_right _ List.mem_cons_self))).1, ?_, fun e he hq => ?_⟩
  · rw [eA, if_pos (Int.le_refl _), wz_all fun p hp => hAB p hp x List.mem_cons_self]
    have := (bB x.1).1
    omega
  · refine Int.not_lt.mp fun hlt => ?_
    rw [eA, if_neg (by omega), wz_none (zs := B) fun p hp => by have := hB.1 p hp; omega] at hq
    have := (bA e).2
    omega
end DL

namespace DL
open PySem PySem.Spec PyProof.Rows L2
/-! promises over told arguments -/
section
variable {α : Type}
/-- data out -/
def Sx (K : PySem.W.Frag) (args : α → List D) (pre : Bg → α → Prop) (post : α → D → Prop) : Sp := fun vs H Q _ => ∃ b F a, Wd K b F H ∧ DvA K b F vs (args a) ∧ pre b a ∧
  ∀ v F' H' x, Step b F H F' H' → Wd K b F' H' → Dv K b F' v x → post a x → Q v H'
/-- a new list out -/
def Sy (K : PySem.W.Frag) (args : α → List D) (pre : Bg → α → Prop) (post : α → List D → Prop) : Sp := fun vs H Q _ => ∃ b F a, Wd K b F H ∧ DvA K b F vs (args a) ∧ pre b a ∧
  ∀ p us F' H' es, Step b F H F' H' → Wd K b F' H' → H p = none → F' p = none → H' p = some (.lst us) → DvA K b F' us es → post a es → Q (.ref p) H'
variable {K : PySem.W.Frag} {b : Bg} {E : Env'} {ta te : TE} {t : TS} {P : Po} {args : α → List D} {pre : Bg → α → Prop} {Φ : D → Prop}
theorem wpe_callx {post : α → D → Prop} {EE : XK} {tr : TA} (h : wpa K b tr E fun xs => ∃ a, xs = args a ∧ pre b a ∧ ∀ x, post a x → Φ x) : wpe K b (tCall (Sx K args pre post) [] EE tr) E Φ := fun H0 F H σ w e Q k =>
  h H0 F H σ w e _ fun vs F1 H1 xs s1 w1 d1 p1 => by
    obtain ⟨a, rfl, h1, h2⟩ := p1
    rw [List.append_nil]
    exact ⟨b, F1, a, w1, d1, h1, fun v F' H' x s w' d q => k v F' H' x (s1.trans s w1) w' d (h2 x q)⟩
theorem wpl_cally {post : α → List D → Prop} {EE : XK} {tr : TA} {Φ : List D → Prop} (h : wpa K b tr E fun xs => ∃ a, xs = args a ∧ pre b a ∧ ∀ x, post a x → Φ x) : wpl K b (tCall (Sy K args pre post) [] EE tr) E Φ := fun H0 F H σ w e Q k =>
  h H0 F H σ w e _ fun vs F1 H1 xs s1 w1 d1 p1 => by
    obtain ⟨a, rfl, h1, h2⟩ := p1
    rw [List.append_nil]
    exact ⟨b, F1, a, w1, d1, h1, fun p us F' H' es s w' n1 n2 n3 d q => k p us F' H' es (s1.trans s w1) w' (s1.fresh w1 n1) n2 n3 d (h2 es q)⟩
theorem wpe_methx {C : Addr} {m : Str} {post : α → D → Prop} {EE : XK} {tr : TA}
    (h : wpe K b ta E fun x => ∃ ns ds, x = .obj C ns ds ∧ m ∉ ns ∧ wpa K b tr E fun xs => ∃ a, x :: xs = args a ∧ pre b a ∧ ∀ y, post a y → Φ y) : wpe K b (tMeth C m (Sx K args pre post) [] EE ta tr) E Φ := fun H0 F H σ w e Q k =>
  h H0 F H σ w e _ fun v F1 H1 x s1 w1 d1 p1 => by
    obtain ⟨ns, ds, rfl, hn, p2⟩ := p1
    have d1' := d1
    cases d1 with
    | @obj a _ dx fs _ s a' =>
      refine ⟨a, dx, fs, rfl, w1.ex _ _ s, ins_no hn, p2 H0 F1 H1 σ w1 (e.step s1) _ fun vs F2 H2 xs s2 w2 d2 q => ?_⟩
      rw [List.append_nil]
      obtain ⟨a0, e0, h1, h2⟩ := q
      exact ⟨b, F2, a0, w2, by rw [← e0]; exact .cons (d1'.up s2.ex) d2, h1, fun v F' H' y s w' d z => k v F' H' y ((s1.trans s2 w1).trans s w2) w' d (h2 y z)⟩
theorem wpl_methy {C : Addr} {m : Str} {post : α → List D → Prop} {EE : XK} {tr : TA} {Φ : List D → Prop}
    (h : wpe K b ta E fun x => ∃ ns ds, x = .obj C ns ds ∧ m ∉ ns ∧ wpa K b tr E fun xs => ∃ a, x :: xs = args a ∧ pre b a ∧ ∀ y, post a y → Φ y) : wpl K b (tMeth C m (Sy K args pre post) [] EE ta tr) E Φ := fun H0 F H σ w e Q k =>
  h H0 F H σ w e _ fun v F1 H1 x s1 w1 d1 p1 => by
    obtain ⟨ns, ds, rfl, hn, p2⟩ := p1
    have d1' := d1
    cases d1 with
    | @obj a _ dx fs _ s a' =>
      refine ⟨a, dx, fs, rfl, w1.ex _ _ s, ins_no hn, p2 H0 F1 H1 σ w1 (e.step s1) _ fun vs F2 H2 xs s2 w2 d2 q => ?_⟩
      rw [List.append_nil]
      obtain ⟨a0, e0, h1, h2⟩ := q
      exact ⟨b, F2, a0, w2, by rw [← e0]; exact .cons (d1'.up s2.ex) d2, h1, fun p us F' H' es s w' n1 n2 n3 d z => k p us F' H' es ((s1.trans s2 w1).trans s w2) w' ((s1.trans s2 w1).fresh w2 n1) n2 n3 d (h2 es z)⟩
theorem ln_x {n : Nat} {post : α → D → Prop} {vs : List V} {H : Hp} {Q : VK} {EE : XK} (h : Sx K args pre post vs H Q EE) (hn : ∀ a, (args a).length = n) : vs.length = n := by
  obtain ⟨_, _, a, _, h, _⟩ := h
  exact h.len.trans (hn a)
theorem ln_y {n : Nat} {post : α → List D → Prop} {vs : List V} {H : Hp} {Q : VK} {EE : XK} (h : Sy K args pre post vs H Q EE) (hn : ∀ a, (args a).length = n) : vs.length = n := by
  obtain ⟨_, _, a, _, h, _⟩ := h
  exact h.len.trans (hn a)
theorem r_x {post : α → D → Prop} {vs : List V} {H : Hp} {Q : VK} {EE : XK} {N : List Str} {t : TS}
    (w : ∀ b a, pre b a → wps K b t (startE N.length (args a)) { nx := fun _ => post a .non, rt := post a, rl := fun es => post a (.lst es) }) (h : Sx K args pre post vs H Q EE) :
    t { nx := fun _ H' => Q .non H', rt := Q } (L2.start N vs) H := by
  obtain ⟨b, F, a, hw, hd, hp, q⟩ := h
  exact run_d (post := post a) hw hd (w b a hp) q
theorem r_y {post : α → List D → Prop} {vs : List V} {H : Hp} {Q : VK} {EE : XK} {N : List Str} {t : TS}
    (w : ∀ b a, pre b a → wps K b t (startE N.length (args a)) { nx := fun _ => False, rt := fun _ => False, rl := post a }) (h : Sy K args pre post vs H Q EE) :
    t { nx := fun _ H' => Q .non H', rt := Q } (L2.start N vs) H := by
  obtain ⟨b, F, a, hw, hd, hp, q⟩ := h
  exact run_l (post := post a) hw hd (w b a hp) q
end
section
variable {K : PySem.W.Frag} {b : Bg} {Φ : D → Prop}
theorem rd_leY {i j : Int} (h : i ≤ j) (q : Φ (.bl true)) : rd2 K b (rI0 fun i j => .bl (decide (i ≤ j))) (.int i) (.int j) Φ := rd_I0b (f := fun i j => decide (i ≤ j)) (by rw [decide_eq_true h]; exact q)
theorem trues {acc : List D} (h : ∀ (j : Nat) (y : D), acc[j]? = some y → y = .bl true) : acc = (List.replicate acc.length true).map D.bl := by
  refine list_of_get (by simp) fun j y z => ?_
  rw [h j y z, List.getElem?_map, List.getElem?_replicate, if_pos (List.getElem?_eq_some_iff.mp z).1]; rfl
theorem rc_allT {acc : List D} (h : ∀ (j : Nat) (y : D), acc[j]? = some y → y = .bl true) (q : Φ (.bl true)) : rdc K b (rAll K) [.lst acc] Φ := by
  rw [trues h]
  refine rc_all ?_
  rw [show (List.replicate acc.length true).all id = true from List.all_eq_true.mpr fun x hx => (List.mem_replicate.mp hx).2]
  exact q
theorem map_mem {α β : Type} {f : α → β} {l : List α} {i : Nat} {y : β} (h : (l.map f)[i]? = some y) : ∃ x, l[i]? = some x ∧ y = f x ∧ x ∈ l := by
  rw [List.getElem?_map] at h
  cases q : l[i]? with
  | none => rw [q] at h; cases h
  | some x => rw [q] at h; cases h; exact ⟨x, rfl, rfl, List.mem_of_getElem? q⟩
theorem take_succ' {α : Type} {l : List α} {i : Nat} {x : α} (h : l[i]? = some x) : l.take (i + 1) = l.take i ++ [x] := by
  rw [List.take_add_one, h]; rfl
theorem filter_succ {α : Type} {l : List α} {i : Nat} {x : α} {f : α → Bool} (h : l[i]? = some x) : (l.take (i + 1)).filter f = (l.take i).filter f ++ if f x then [x] else [] := by
  rw [take_succ' h, List.filter_append]
  cases e : f x <;> simp [List.filter, e]
theorem pow18 : (10 : Int) ^ (18 : Int).toNat = 1000000000000000000 := by decide +kernel
theorem atI_mem {α : Type} {ds : List α} {i : Int} (h0 : 0 ≤ i) (h1 : i < ds.length) : ∃ d, atI ds i = some d ∧ d ∈ ds := by
  have hl : i.toNat < ds.length := by omega
  have := atI_nat (xs := ds) (j := i.toNat) (v := ds[i.toNat]) (List.getElem?_eq_getElem hl)
  rw [Int.toNat_of_nonneg h0] at this
  exact ⟨_, this, List.getElem_mem _⟩
theorem atI_of {α : Type} {ds : List α} {i : Nat} {d : α} (h : ds[i]? = some d) : atI ds (i : Int) = some d := atI_nat h
end
/-! councils, parts, rows -/
def okQ (ws qs : List Int) : Prop := (2 ≤ ws.length ∧ ws.length ≤ 7) ∧ (1 ≤ qs.length ∧ qs.length ≤ 6) ∧ (∀ x ∈ ws, 1 ≤ x ∧ x ≤ 1000000) ∧ ∀ q ∈ qs, 1 ≤ q ∧ q ≤ ws.sum
def okR (n w : Nat) (rs : List (List Int)) : Prop := rs.length = n ∧ ∀ r ∈ rs, r.length = w ∧ ∀ v ∈ r, v.natAbs ≤ 10 ^ 18
def dI (ns : List Int) : D := .lst (ns.map D.int)
def dRs (rs : List (List Int)) : D := .lst (rs.map encR)
def dPt (p : List Int × List Int) : D := .tup [dI p.1, dI p.2]
/-- the row that is made -/
def isMade (ws qs : List Int) (rs : List (List Int)) (r : List Int) : Prop := r.length = qs.length ∧ ∀ (c : Nat) q m, qs[c]? = some q → r[c]? = some m → isLeast (rs.map fun r => rget r c) ws q m
theorem isMade_one {ws qs : List Int} {rs : List (List Int)} {r s : List Int} (h1 : isMade ws qs rs r) (h2 : isMade ws qs rs s) : r = s := by
  refine list_of_get (h1.1.trans h2.1.symm) fun j y e => ?_
  have hj : j < r.length := (List.getElem?_eq_some_iff.mp e).1
  have hj1 : j < qs.length := by rw [← h1.1]; exact hj
  have hj2 : j < s.length := by rw [h2.1, ← h1.1]; exact hj
  have hq : qs[j]? = some qs[j] := List.getElem?_eq_getElem hj1
  have hs : s[j]? = some s[j] := List.getElem?_eq_getElem hj2
  rw [hs, isLeast_one (h2.2 j _ _ hq hs) (h1.2 j _ _ hq e)]
theorem split_sum : ∀ (zs : List (Int × Int)) (q : Int), 0 < q → q ≤ (zs.map (·.2)).sum → ∃ A x B, zs = A ++ x :: B ∧ (A.map (·.2)).sum < q ∧ q ≤ (A.map (·.2)).sum + x.2
  | [], q, h0, h1 => by simp at h1; omega
  | p :: zs, q, h0, h1 => by
    by_cases h : q ≤ p.2
    · exact ⟨[], p, zs, rfl, h0, by show q ≤ 0 + p.2; omega⟩
    · obtain ⟨A, x, B, e, h2, h3⟩ := split_sum zs (q - p.2) (by omega) (by rw [List.map_cons, List.sum_cons] at h1; omega)
      exact ⟨p :: A, x, B, by rw [e]; rfl, by rw [List.map_cons, List.sum_cons]; omega, by rw [List.map_cons, List.sum_cons]; omega⟩
theorem zip_sum {es ws : List Int} (hl : es.length = ws.length) : ((es.zip ws).map (·.2)).sum = ws.sum := by
  have : (es.zip ws).map (·.2) = ws := List.map_snd_zip (by omega)
  rw [this]
theorem isLeast_ex {es ws : List Int} {q : Int} (hl : es.length = ws.length) (hw : ∀ w ∈ ws, 1 ≤ w) (h0 : 1 ≤ q) (h1 : q ≤ ws.sum) : ∃ m, isLeast es ws q m := by
  have hp := srtP_perm (es.zip ws)
  have hs : ((srtP (es.zip ws)).map (·.2)).sum = ws.sum := by rw [sum_perm (hp.map _), zip_sum hl]
  obtain ⟨A, x, B, e, h2, h3⟩ := split_sum (srtP (es.zip ws)) q (by omega) (by rw [hs]; exact h1)
  rw [e] at hp
  exact ⟨x.1, isLeast_of hl hp (by rw [← e]; exact srtP_pw _) (fun w hw' => by have := hw w hw'; omega) h2 h3⟩
/-! promises -/
abbrev sp_is_integer (K : PySem.W.Frag) (_ : Addr) : Sp := Sx K (fun i : Int => [.int i]) (fun _ _ => True) fun _ x => x = .bl true
abbrev sp_are_counts (K : PySem.W.Frag) (_ : Addr) : Sp := Sx K (fun a : List Int × Int × Int × Int => [dI a.1, .int a.2.1, .int a.2.2.1, .int a.2.2.2]) (fun _ a => a.1.length ≤ 100 ∧ a.2.1 ≤ a.1.length ∧ a.1.length ≤ a.2.2.1 ∧ ∀ x ∈ a.1, 1 ≤ x ∧ x ≤ a.2.2.2) fun _ x => x = .bl true
abbrev sp_are_weights (K : PySem.W.Frag) (_ : Addr) : Sp := Sx K (fun ws : List Int => [dI ws]) (fun _ ws => (2 ≤ ws.length ∧ ws.length ≤ 7) ∧ ∀ x ∈ ws, 1 ≤ x ∧ x ≤ 1000000) fun _ x => x = .bl true
abbrev sp_are_quotas (K : PySem.W.Frag) (_ : Addr) : Sp := Sx K (fun a : List Int × Int => [dI a.1, .int a.2]) (fun _ a => (1 ≤ a.1.length ∧ a.1.length ≤ 6) ∧ ∀ x ∈ a.1, 1 ≤ x ∧ x ≤ a.2) fun _ x => x = .bl true
abbrev sp_C_init (K : PySem.W.Frag) (C : Addr) : Sp := spInit K C okQ
abbrev sp_C_weights (K : PySem.W.Frag) (C : Addr) : Sp := Sy K (fun a : List Int × List Int => [dC C a.1 a.2]) (fun _ _ => True) fun a es => es = a.1.map D.int
abbrev sp_C_quotas (K : PySem.W.Frag) (C : Addr) : Sp := Sy K (fun a : List Int × List Int => [dC C a.1 a.2]) (fun _ _ => True) fun a es => es = a.2.map D.int
abbrev sp_C_width (K : PySem.W.Frag) (C : Addr) : Sp := Sx K (fun a : List Int × List Int => [dC C a.1 a.2]) (fun _ _ => True) fun a x => x = .int (a.2.length : Nat)
abbrev sp_settled (K : PySem.W.Frag) (_ : Addr) : Sp := Sx K (fun a : List Int × List Int × Int => [dI a.1, dI a.2.1, .int a.2.2]) (fun _ a => a.1.length = a.2.1.length ∧ (∀ w ∈ a.2.1, 1 ≤ w) ∧ 1 ≤ a.2.2 ∧ a.2.2 ≤ a.2.1.sum) fun a x => ∃ m, x = .int m ∧ isLeast a.1 a.2.1 a.2.2 m
abbrev sp_settle (K : PySem.W.Frag) (C : Addr) : Sp := Sx K (fun a : List Int × List Int × List (List Int) => [dC C a.1 a.2.1, dRs a.2.2]) (fun _ a => okQ a.1 a.2.1 ∧ okR a.1.length a.2.1.length a.2.2) fun a x => ∃ r, x = encR r ∧ isMade a.1 a.2.1 a.2.2 r
abbrev sp_law_bag (K : PySem.W.Frag) (_ : Addr) : Sp := spBag K
abbrev sp_law (K : PySem.W.Frag) (_ : Addr) : Sp := spLaw K
abbrev sp_law_take (K : PySem.W.Frag) (_ : Addr) : Sp := spTake K
abbrev sp_law_alike (K : PySem.W.Frag) (_ : Addr) : Sp := Sx K (fun x : D => [x, x]) (fun _ x => D.ok 9 x = true ∧ D.sm x = true ∧ x.cost ≤ 10000000) fun _ z => z = .bl true
abbrev sp_law_council (K : PySem.W.Frag) (_ : Addr) : Sp := Sx K (fun a : Nat × Nat => [.bag, .int a.1, .int a.2]) (fun b a => b.isSome = true ∧ 1 ≤ a.1 ∧ a.1 ≤ 6 ∧ 2 ≤ a.2 ∧ a.2 ≤ 7) fun a x => ∃ p, x = dPt p ∧ okQ p.1 p.2 ∧ p.2.length = a.1 ∧ p.1.length ≤ a.2
abbrev sp_law_made (K : PySem.W.Frag) (C : Addr) : Sp := Sx K (fun p : List Int × List Int => [dPt p]) (fun _ p => okQ p.1 p.2) fun p x => x = dC C p.1 p.2
abbrev sp_law_value (K : PySem.W.Frag) (_ : Addr) : Sp := Sx K (fun _ : Unit => [.bag]) (fun b _ => b.isSome = true) fun _ z => ∃ v : Int, z = .int v ∧ v.natAbs ≤ 10 ^ 18
abbrev sp_law_seat_rows (K : PySem.W.Frag) (_ : Addr) : Sp := Sx K (fun a : Nat × Nat => [.bag, .int a.1, .int a.2]) (fun b a => b.isSome = true ∧ 1 ≤ a.1 ∧ a.1 ≤ 6 ∧ a.2 ≤ 7) fun a x => ∃ rs, x = dRs rs ∧ okR a.2 a.1 rs
abbrev sp_law_due (K : PySem.W.Frag) (_ : Addr) : Sp := Sx K (fun a : (List Int × List Int) × List (List Int) => [dPt a.1, dRs a.2]) (fun _ a => okQ a.1.1 a.1.2 ∧ okR a.1.1.length a.1.2.length a.2) fun a x => ∃ r, x = encR r ∧ isMade a.1.1 a.1.2 a.2 r
end DL

namespace DL
open PySem PySem.Spec PyProof.Rows L2
def t_is_integer (K : PySem.W.Frag) (C : Addr) : TS :=
  (tRet (tAndV (tCB (rIsi K) (tCons (tVar 0) (tCons (tC (.ty "int")) tNil))) (tNotV (tCB (rIsi K) (tCons (tVar 0) (tCons (tC (.ty "bool")) tNil))))))
def t_settle (K : PySem.W.Frag) (C : Addr) : TS :=
  (tSeq (tAsg (tMeth C "weights" (sp_C_weights K C) [] E0 (tVar 0) tNil) (gName 2))
    (tSeq (tAsg (tLc (iRng1 (tCons (tMeth C "width" (sp_C_width K C) [] E0 (tVar 0) tNil) tNil)) (gName 4) tYes (tLc (iList K (tVar 1)) (gName 5) tYes (tOp (rIx K) (tVar 5) (tVar 4)) [5]) [4]) (gName 3))
    (tRet (tCB (rTuple K) (tCons (tLc (iZip K (tCons (tVar 3) (tCons (tMeth C "quotas" (sp_C_quotas K C) [] E0 (tVar 0) tNil) tNil))) (gTup K 2 (gCons (gName 6) (gCons (gName 7) gNil))) tYes (tCall (sp_settled K C) [] E0 (tCons (tVar 6) (tCons (tVar 2) (tCons (tVar 7) tNil)))) [6, 7]) tNil)))))
def t_settled (K : PySem.W.Frag) (C : Addr) : TS :=
  (tSeq (tAsg (tVar 2) (gName 3))
    (tSeq (tFor (iList K (tCB (rSrtZip K) (tCons (tVar 0) (tCons (tVar 1) tNil)))) (gTup K 2 (gCons (gName 4) (gCons (gName 5) gNil)))
    (tSeq (tAug 3 (tVar 5) (ipI fun i j => i - j))
    (tIfS (tTest (tOp (rI0 fun i j => .bl (decide (i ≤ j))) (tVar 3) (tC (.int 0))))
    tBreak
    tNext)))
    (tRet (tVar 4))))
def t_C_init (K : PySem.W.Frag) (C : Addr) : TS :=
  (tSeq (tIfS (tNot (tB (tCall (sp_are_weights K C) [] E0 (tCons (tVar 1) tNil))))
    tNever
    tNext)
    (tSeq (tIfS (tNot (tB (tCall (sp_are_quotas K C) [] E0 (tCons (tVar 2) (tCons (tCB (rSum K) (tCons (tVar 1) tNil)) tNil)))))
    tNever
    tNext)
    (tSeq (sFld K (tVar 0) (tCB (rList K) (tCons (tVar 1) tNil)) "_weights")
    (sFld K (tVar 0) (tCB (rList K) (tCons (tVar 2) tNil)) "_quotas"))))
def t_C_weights (K : PySem.W.Frag) (C : Addr) : TS :=
  (tRet (tCB (rList K) (tCons (tFld K (tVar 0) "_weights") tNil)))
def t_C_quotas (K : PySem.W.Frag) (C : Addr) : TS :=
  (tRet (tCB (rList K) (tCons (tFld K (tVar 0) "_quotas") tNil)))
def t_C_width (K : PySem.W.Frag) (C : Addr) : TS :=
  (tRet (tCB (DL.rLen K) (tCons (tFld K (tVar 0) "_quotas") tNil)))
def t_are_weights (K : PySem.W.Frag) (C : Addr) : TS :=
  (tRet (tCall (sp_are_counts K C) [] E0 (tCons (tVar 0) (tCons (tC (.int 2)) (tCons (tC (.int 7)) (tCons (tC (.int 1000000)) tNil))))))
def t_are_quotas (K : PySem.W.Frag) (C : Addr) : TS :=
  (tRet (tCall (sp_are_counts K C) [] E0 (tCons (tVar 0) (tCons (tC (.int 1)) (tCons (tC (.int 6)) (tCons (tVar 1) tNil))))))
def t_are_counts (K : PySem.W.Frag) (C : Addr) : TS :=
  (tSeq (tIfS (tOr (tNot (tB (tCB (rIsi K) (tCons (tVar 0) (tCons (tC (.ty "list")) tNil))))) (tNot (tTest (tChain (rI0 fun i j => .bl (decide (i ≤ j))) (rI0 fun i j => .bl (decide (i ≤ j))) (tVar 1) (tCB (DL.rLen K) (tCons (tVar 0) tNil)) (tVar 2)))))
    (tRet (tC (.bl false)))
    tNext)
    (tRet (tCB (rAll K) (tCons (tLc (iList K (tVar 0)) (gName 4) tYes (tAndV (tCall (sp_is_integer K C) [] E0 (tCons (tVar 4) tNil)) (tChain (rI0 fun i j => .bl (decide (i ≤ j))) (rI0 fun i j => .bl (decide (i ≤ j))) (tC (.int 1)) (tVar 4) (tVar 3))) [4]) tNil))))
def t_law_bag (K : PySem.W.Frag) (C : Addr) : TS :=
  (tRet (tLst (tCons (tC (.int 0)) (tCons (tC (.int 1234567891)) (tCons (tC (.int 0)) (tCons (tLc (iList K (tSl (rSl K) (tVar 0) tNoPart (tPart (tC (.int 63))))) (gName 1) tYes (tCB rAbs (tCons (tVar 1) tNil)) [1]) tNil))))))
def t_law_take (K : PySem.W.Frag) (C : Addr) : TS :=
  (tSeq (tIfS (tTest (tOp (rEqD K) (tOp (rIx K) (tVar 0) (tC (.int 0))) (tC (.int 0))))
    (tSeq (tAsg (tC (.int 0)) (gName 2))
    (tSeq (tIfS (tTest (tOp (rI0 fun i j => .bl (decide (i < j))) (tOp (rIx K) (tVar 0) (tC (.int 2))) (tCB (DL.rLen K) (tCons (tOp (rIx K) (tVar 0) (tC (.int 3))) tNil))))
    (tAsg (tOp (rIx K) (tOp (rIx K) (tVar 0) (tC (.int 3))) (tOp (rIx K) (tVar 0) (tC (.int 2)))) (gName 2))
    tNext)
    (tSeq (tAugS (tVar 0) (tC (.int 2)) (tC (.int 1)) (rIxL K) (ipI fun i j => i + j) rSetL)
    (tSeq (tIfS (tTest (tOp (rI0 fun i j => .bl (decide (j ≤ i))) (tVar 2) (tC (.int 1000000000000000000))))
    (tAsg (tVar 2) (gSub (tVar 0) (tC (.int 0)) rSetL))
    tNext)
    (tAsg (tOp (rI (fun _ j => 0 < j) fun i j => .int (i % j)) (tOp (rI0 fun i j => .int (i + j)) (tOp (rI0 fun i j => .int (i + j)) (tOp (rI CMul fun i j => .int (i * j)) (tOp (rIx K) (tVar 0) (tC (.int 1))) (tC (.int 48271))) (tOp (rI (fun _ j => 0 < j) fun i j => .int (i % j)) (tVar 2) (tC (.int 2147483647)))) (tOp (rI CMul fun i j => .int (i * j)) (tC (.int 7919)) (tOp (rIx K) (tVar 0) (tC (.int 2))))) (tC (.int 2147483647))) (gSub (tVar 0) (tC (.int 1)) rSetL))))))
    tNext)
    (tSeq (tIfS (tTest (tOp (rI0 fun i j => .bl (decide (j < i))) (tOp (rIx K) (tVar 0) (tC (.int 0))) (tC (.int 0))))
    (tSeq (tAsg (tOp (rI (fun _ j => 0 < j) fun i j => .int (i % j)) (tOp (rIx K) (tVar 0) (tC (.int 0))) (tVar 1)) (gName 3))
    (tSeq (tAsg (tOp (rI CDivW fun i j => .int (i / j)) (tOp (rIx K) (tVar 0) (tC (.int 0))) (tVar 1)) (gSub (tVar 0) (tC (.int 0)) rSetL))
    (tRet (tVar 3))))
    tNext)
    (tSeq (tAsg (tOp (rI (fun _ j => 0 < j) fun i j => .int (i % j)) (tOp (rI CMul fun i j => .int (i * j)) (tOp (rI0 fun i j => .int (i + j)) (tOp (rIx K) (tVar 0) (tC (.int 1))) (tC (.int 1))) (tC (.int 39373))) (tC (.int 1000000007))) (gName 4))
    (tSeq (tAsg (tOp (rI (fun _ j => 0 < j) fun i j => .int (i % j)) (tOp (rI CMul fun i j => .int (i * j)) (tOp (rI (fun _ j => 0 < j) fun i j => .int (i % j)) (tOp (rI CMul fun i j => .int (i * j)) (tVar 4) (tVar 4)) (tC (.int 998244353))) (tC (.int 30011))) (tC (.int 998244353))) (gName 5))
    (tSeq (tIfS (tTest (tOp (rI0 fun i j => .bl (decide (j < i))) (tVar 1) (tC (.int 1000000))))
    (tRet (tOp (rI (fun _ j => 0 < j) fun i j => .int (i % j)) (tOp (rI0 fun i j => .int (i + j)) (tOp (rI CMul fun i j => .int (i * j)) (tVar 5) (tC (.int 1000000007))) (tVar 4)) (tVar 1)))
    tNext)
    (tRet (tOp (rI (fun _ j => 0 < j) fun i j => .int (i % j)) (tOp (rI CDivW fun i j => .int (i / j)) (tVar 5) (tC (.int 7))) (tVar 1))))))))
def t_law_alike (K : PySem.W.Frag) (C : Addr) : TS :=
  (tRet (tAndV (tOp (rEqD K) (tVar 0) (tVar 1)) (tOp rEq (tCB (rRepr K) (tCons (tVar 0) tNil)) (tCB (rRepr K) (tCons (tVar 1) tNil)))))
def t_law_council (K : PySem.W.Frag) (C : Addr) : TS :=
  (tSeq (tAsg (tTup (tCons (tOp (rI0 fun i j => .int (i + j)) (tC (.int 2)) (tCall (sp_law_take K C) [] E0 (tCons (tVar 0) (tCons (tOp (rI0 fun i j => .int (i - j)) (tVar 2) (tC (.int 1))) tNil)))) (tCons (tCall (sp_law_take K C) [] E0 (tCons (tVar 0) (tCons (tC (.int 5)) tNil))) tNil))) (gTup K 2 (gCons (gName 3) (gCons (gName 4) gNil))))
    (tSeq (tAsg (tLc (iRng1 (tCons (tVar 3) tNil)) (gName 10) tYes (tOp (rI0 fun i j => .int (i + j)) (tC (.int 1)) (tCall (sp_law_take K C) [] E0 (tCons (tVar 0) (tCons (tOp (rIx K) (tLst (tCons (tC (.int 1)) (tCons (tC (.int 1)) (tCons (tC (.int 2)) (tCons (tC (.int 5)) (tCons (tC (.int 1000000)) tNil)))))) (tVar 4)) tNil)))) [10]) (gName 5))
    (tSeq (tAsg (tCB (rSum K) (tCons (tVar 5) tNil)) (gName 6))
    (tSeq (tAsg (tLst tNil) (gName 7))
    (tSeq (tFor (iRng1 (tCons (tVar 1) tNil)) (gName 8)
    (tSeq (tAsg (tLst (tCons (tOp (rI0 fun i j => .int (i + j)) (tOp (rI CDivW fun i j => .int (i / j)) (tVar 6) (tC (.int 2))) (tC (.int 1))) (tCons (tOp (rI0 fun i j => .int (i + j)) (tC (.int 1)) (tCall (sp_law_take K C) [] E0 (tCons (tVar 0) (tCons (tVar 6) tNil)))) (tCons (tC (.int 1)) (tCons (tVar 6) tNil))))) (gName 9))
    (tDrop (tBM K "list" rAppend (tVar 7) (tCons (tOp (rIx K) (tVar 9) (tOp (rI CMul fun i j => .int (i * j)) (tCB rMax2 (tCons (tC (.int 0)) (tCons (tOp (rI0 fun i j => .int (i - j)) (tCall (sp_law_take K C) [] E0 (tCons (tVar 0) (tCons (tC (.int 6)) tNil))) (tC (.int 2))) tNil))) (tCB rInt1 (tCons (tOp (rI0 fun i j => .bl (decide (j < i))) (tVar 4) (tC (.int 0))) tNil)))) tNil)))))
    (tRet (tTup (tCons (tVar 5) (tCons (tVar 7) tNil)))))))))
def t_law_made (K : PySem.W.Frag) (C : Addr) : TS :=
  (tRet (tMake C (sp_C_init K C) [] E0 (tCons (tCB (rList K) (tCons (tOp (rIx K) (tVar 0) (tC (.int 0))) tNil)) (tCons (tCB (rList K) (tCons (tOp (rIx K) (tVar 0) (tC (.int 1))) tNil)) tNil))))
def t_law_value (K : PySem.W.Frag) (C : Addr) : TS :=
  (tSeq (tAsg (tCall (sp_law_take K C) [] E0 (tCons (tVar 0) (tCons (tC (.int 4)) tNil))) (gName 1))
    (tSeq (tIfS (tTest (tOp (rI0 fun i j => .bl (decide (i < j))) (tVar 1) (tC (.int 2))))
    (tRet (tOp (rI0 fun i j => .int (i - j)) (tCall (sp_law_take K C) [] E0 (tCons (tVar 0) (tCons (tC (.int 7)) tNil))) (tC (.int 3))))
    tNext)
    (tSeq (tAsg (tLst (tCons (tOp (rI0 fun i j => .int (i - j)) (tOp (rI CPow fun i j => .int (i ^ j.toNat)) (tC (.int 10)) (tC (.int 18))) (tCall (sp_law_take K C) [] E0 (tCons (tVar 0) (tCons (tC (.int 5)) tNil)))) (tCons (tOp (rI0 fun i j => .int (i - j)) (tCall (sp_law_take K C) [] E0 (tCons (tVar 0) (tCons (tOp (rI0 fun i j => .int (i + j)) (tOp (rI CMul fun i j => .int (i * j)) (tC (.int 2)) (tOp (rI CPow fun i j => .int (i ^ j.toNat)) (tC (.int 10)) (tC (.int 18)))) (tC (.int 1))) tNil))) (tOp (rI CPow fun i j => .int (i ^ j.toNat)) (tC (.int 10)) (tC (.int 18)))) tNil))) (gName 2))
    (tRet (tOp (rI CMul fun i j => .int (i * j)) (tOp (rIx K) (tVar 2) (tOp (rI0 fun i j => .int (i - j)) (tVar 1) (tC (.int 2)))) (tOp (rIx K) (tLst (tCons (tC (.int 1)) (tCons (tUn (rU fun i => .int (-i)) (tC (.int 1))) tNil))) (tCall (sp_law_take K C) [] E0 (tCons (tVar 0) (tCons (tC (.int 2)) tNil)))))))))
def t_law_seat_rows (K : PySem.W.Frag) (C : Addr) : TS :=
  (tSeq (tAsg (tTup (tCons (tOp (rIx K) (tLst (tCons (tC (.int 1)) (tCons (tC (.int 3)) (tCons (tC (.int 0)) tNil)))) (tCall (sp_law_take K C) [] E0 (tCons (tVar 0) (tCons (tC (.int 3)) tNil)))) (tCons (tLst tNil) tNil))) (gTup K 2 (gCons (gName 3) (gCons (gName 4) gNil))))
    (tSeq (tFor (iRng1 (tCons (tVar 2) tNil)) (gName 5)
    (tSeq (tAsg (tCB (rTuple K) (tCons (tLc (iRng1 (tCons (tVar 1) tNil)) (gName 7) tYes (tIf (tTest (tOp (rI0 fun i j => .bl (decide (j < i))) (tVar 3) (tC (.int 0)))) (tCall (sp_law_take K C) [] E0 (tCons (tVar 0) (tCons (tOp (rI0 fun i j => .int (i + j)) (tVar 3) (tC (.int 1))) tNil))) (tCall (sp_law_value K C) [] E0 (tCons (tVar 0) tNil))) [7]) tNil)) (gName 6))
    (tSeq (tIfS (tAnd (tTest (tOp (rNeD K) (tVar 4) (tLst tNil))) (tTest (tOp (rEqD K) (tCall (sp_law_take K C) [] E0 (tCons (tVar 0) (tCons (tC (.int 4)) tNil))) (tC (.int 0)))))
    (tAsg (tOp (rIx K) (tVar 4) (tCall (sp_law_take K C) [] E0 (tCons (tVar 0) (tCons (tCB (DL.rLen K) (tCons (tVar 4) tNil)) tNil)))) (gName 6))
    tNext)
    (tDrop (tBM K "list" rAppend (tVar 4) (tCons (tVar 6) tNil))))))
    (tRet (tVar 4))))
def t_law_due (K : PySem.W.Frag) (C : Addr) : TS :=
  (tSeq (tAsg (tVar 0) (gTup K 2 (gCons (gName 2) (gCons (gName 3) gNil))))
    (tSeq (tAsg (tLst tNil) (gName 4))
    (tSeq (tFor (iRng1 (tCons (tCB (DL.rLen K) (tCons (tVar 3) tNil)) tNil)) (gName 5)
    (tSeq (tAsg (tLst tNil) (gName 6))
    (tSeq (tFor (iList K (tLc (iList K (tVar 1)) (gName 8) tYes (tOp (rIx K) (tVar 8) (tVar 5)) [8])) (gName 7)
    (tIfS (tTest (tOp (rI0 fun i j => .bl (decide (j ≤ i))) (tCB (rSum K) (tCons (tLc (iRng1 (tCons (tCB (DL.rLen K) (tCons (tVar 2) tNil)) tNil)) (gName 9) (tTest (tOp (rI0 fun i j => .bl (decide (i ≤ j))) (tOp (rIx K) (tOp (rIx K) (tVar 1) (tVar 9)) (tVar 5)) (tVar 7))) (tOp (rIx K) (tVar 2) (tVar 9)) [9]) tNil)) (tOp (rIx K) (tVar 3) (tVar 5))))
    (tDrop (tBM K "list" rAppend (tVar 6) (tCons (tVar 7) tNil)))
    tNext))
    (tDrop (tBM K "list" rAppend (tVar 4) (tCons (tCB (rMin K) (tCons (tVar 6) tNil)) tNil))))))
    (tRet (tCB (rTuple K) (tCons (tVar 4) tNil))))))
end DL

namespace DL
open PySem PySem.Spec PyProof.Rows L2
section
variable {K : PySem.W.Frag} {C : Addr} {b : Bg} {P : Po}
theorem w_is_integer {i : Int} (k : P.rt (.bl true)) : wps K b (t_is_integer K C) [.d (.int i)] P := by
  unfold t_is_integer
  exact wps_ret (wpe_and (wpe_isi (wpe_var (by rfl) ⟨"int", true, rfl, rfl, true, rfl, ifT (wpe_not (wpe_isi (wpe_var (by rfl) ⟨"int", false, rfl, rfl, false, rfl, k⟩)))⟩)))
theorem w_are_counts {ns : List Int} {f m g : Int} (h0 : ns.length ≤ 100) (h1 : f ≤ ns.length) (h2 : ns.length ≤ m) (h3 : ∀ x ∈ ns, 1 ≤ x ∧ x ≤ g) (k : P.rt (.bl true)) : wps K b (t_are_counts K C) [.d (dI ns), .d (.int f), .d (.int m), .d (.int g), .u] P := by
  unfold t_are_counts
  refine wps_seq (wps_if (wpt_or (wpt_not (wpt_B (wpe_isi (wpe_var (by rfl) ⟨"list", true, rfl, rfl, true, rfl, ?_⟩))))))
  refine ifF (wpt_not (wpt_test (wpe_chain (wpe_var (by rfl) (wpe_cb (wpa_cons (wpe_var (by rfl) (wpa_nil (rc_lenL ?_)))))))))
  rw [List.length_map]
  refine rd_leY h1 ⟨true, rfl, ifT (wpe_var (by rfl) (rd_leY h2 ⟨true, rfl, ?_⟩))⟩
  refine ifF (wps_next ?_)
  refine wps_ret (wpe_cb (wpa_cons (wpe_l (wpl_gen1 (R := fun _ y => y = .bl true) (wpi_list (wpe_var (by rfl) ⟨_, rfl, by rw [List.length_map]; omega, fun j d hd => ?_, fun acc _ hR => wpa_nil (rc_allT hR k)⟩))))))
  obtain ⟨x, hx, rfl, hm⟩ := map_mem hd
  refine wpe_and (wpe_callx (wpa_cons (wpe_var (by rfl) (wpa_nil ⟨x, rfl, trivial, fun y hy => ⟨true, hy, ?_⟩⟩))))
  exact ifT (wpe_chain (wpe_int (wpe_var (by rfl) (rd_leY (h3 x hm).1 ⟨true, rfl, ifT (wpe_var (by rfl) (rd_leY (h3 x hm).2 rfl))⟩))))
theorem w_are_weights {ws : List Int} (h0 : 2 ≤ ws.length ∧ ws.length ≤ 7) (h1 : ∀ x ∈ ws, 1 ≤ x ∧ x ≤ 1000000) (k : P.rt (.bl true)) : wps K b (t_are_weights K C) [.d (dI ws)] P := by
  unfold t_are_weights
  refine wps_ret (wpe_callx (wpa_cons (wpe_var (by rfl) (wpa_cons (wpe_int (wpa_cons (wpe_int (wpa_cons (wpe_int (wpa_nil ⟨(ws, 2, 7, 1000000), rfl, ⟨?_, ?_, ?_, h1⟩, fun y hy => ?_⟩))))))))))
  · show ws.length ≤ 100; omega
  · show (2 : Int) ≤ ws.length; omega
  · show (ws.length : Int) ≤ 7; omega
  · rw [hy]; exact k
theorem w_are_quotas {qs : List Int} {t : Int} (h0 : 1 ≤ qs.length ∧ qs.length ≤ 6) (h1 : ∀ x ∈ qs, 1 ≤ x ∧ x ≤ t) (k : P.rt (.bl true)) : wps K b (t_are_quotas K C) [.d (dI qs), .d (.int t)] P := by
  unfold t_are_quotas
  refine wps_ret (wpe_callx (wpa_cons (wpe_var (by rfl) (wpa_cons (wpe_int (wpa_cons (wpe_int (wpa_cons (wpe_var (by rfl) (wpa_nil ⟨(qs, 1, 6, t), rfl, ⟨?_, ?_, ?_, h1⟩, fun y hy => ?_⟩))))))))))
  · show qs.length ≤ 100; omega
  · show (1 : Int) ≤ qs.length; omega
  · show (qs.length : Int) ≤ 6; omega
  · rw [hy]; exact k
theorem look_w {C : Addr} {ws qs : List Int} : ((cNames.zip [D.lst (ws.map D.int), .lst (qs.map D.int)]).lookup ("_weights" : Str)) = some (.lst (ws.map D.int)) := by
  show List.lookup ("_weights" : Str) [(("_weights" : Str), _), (("_quotas" : Str), _)] = _
  unfold List.lookup
  rw [show (("_weights" : Str) == "_weights") = true from by decide +kernel]
theorem look_q {C : Addr} {ws qs : List Int} : ((cNames.zip [D.lst (ws.map D.int), .lst (qs.map D.int)]).lookup ("_quotas" : Str)) = some (.lst (qs.map D.int)) := by
  show List.lookup ("_quotas" : Str) [(("_weights" : Str), _), (("_quotas" : Str), _)] = _
  unfold List.lookup
  rw [show (("_quotas" : Str) == "_weights") = false from by decide +kernel]
  unfold List.lookup
  rw [show (("_quotas" : Str) == "_quotas") = true from by decide +kernel]
theorem w_C_weights (c : CF K C) {ws qs : List Int} (k : P.rl (ws.map D.int)) : wps K b (t_C_weights K C) [.d (dC C ws qs)] P := by
  unfold t_C_weights
  exact wps_retl (wpl_cb (wpa_cons (wpe_fld c.cl c.nW (wpe_var (by rfl) ⟨_, _, _, rfl, look_w (C := C), wpa_nil (rcl_listL k)⟩))))
theorem w_C_quotas (c : CF K C) {ws qs : List Int} (k : P.rl (qs.map D.int)) : wps K b (t_C_quotas K C) [.d (dC C ws qs)] P := by
  unfold t_C_quotas
  exact wps_retl (wpl_cb (wpa_cons (wpe_fld c.cl c.nQ (wpe_var (by rfl) ⟨_, _, _, rfl, look_q (C := C), wpa_nil (rcl_listL k)⟩))))
theorem w_C_width (c : CF K C) {ws qs : List Int} (k : P.rt (.int (qs.length : Nat))) : wps K b (t_C_width K C) [.d (dC C ws qs)] P := by
  unfold t_C_width
  refine wps_ret (wpe_cb (wpa_cons (wpe_fld c.cl c.nQ (wpe_var (by rfl) ⟨_, _, _, rfl, look_q (C := C), wpa_nil (rc_lenL ?_)⟩))))
  rw [List.length_map]; exact k
theorem w_settled {es ws : List Int} {q : Int} (hl : es.length = ws.length) (hw : ∀ w ∈ ws, 1 ≤ w) (h0 : 1 ≤ q) (h1 : q ≤ ws.sum) (k : ∀ m, isLeast es ws q m → P.rt (.int m)) : wps K b (t_settled K C) [.d (dI es), .d (dI ws), .d (.int q), .u, .u, .u] P := by
  unfold t_settled
  have hp := srtP_perm (es.zip ws)
  have hs : ((srtP (es.zip ws)).map (·.2)).sum = ws.sum := by rw [sum_perm (hp.map _), zip_sum hl]
  have pw := srtP_pw (es.zip ws)
  obtain ⟨zs, hzs⟩ : ∃ zs, srtP (es.zip ws) = zs := ⟨_, rfl⟩
  rw [hzs] at hp hs pw
  refine wps_seq (wps_asg (wpe_var (by rfl) (wps_seq (wps_for [4, 5] (wpi_list (wpe_l (wpl_cb (wpa_cons (wpe_var (by rfl) (wpa_cons (wpe_var (by rfl) (wpa_nil (rcl_srtZip hl ?_)))))))))))))
  rw [hzs]
  refine ⟨_, rfl, fun i E => ((zs.take i).map (·.2)).sum < q ∧ ∃ a4 a5, E = [.d (dI es), .d (dI ws), .d (.int q), .d (.int (q - ((zs.take i).map (·.2)).sum)), a4, a5], ⟨by show (0 : Int) < q; omega, _, _, by show _ = [En.d (dI es), .d (dI ws), .d (.int q), .d (.int (q - 0)), _, _]; rw [Int.sub_zero]; rfl⟩, fun i d E hd hI => ?_, fun E hI => ?_⟩
  · obtain ⟨hlt, a4, a5, rfl⟩ := hI
    obtain ⟨x, hx, rfl, hm⟩ := map_mem hd
    refine wpg_tup (by rfl) (wpgs_cons (wpg_name (by simp) (wpgs_cons (wpg_name (by simp) (wpgs_nil ?_)))))
    have e1 : ((zs.take (i + 1)).map (·.2)).sum = ((zs.take i).map (·.2)).sum + x.2 := by rw [take_succ' hx, List.map_append, List.sum_append]; simp
    refine wps_seq (wps_augI (by rfl) (wpe_var (by rfl) ⟨x.2, rfl, ?_⟩))
    refine wps_if (wpt_test (wpe_op (wpe_var (by rfl) (wpe_int (rd_I0b ⟨_, rfl, ifB (fun z => ?_) (fun z => ?_)⟩)))))
    · have z' : q - ((zs.take i).map (·.2)).sum - x.2 ≤ 0 := of_decide_eq_true z
      refine wps_brk (wps_ret (wpe_var (by rfl) (k _ ?_)))
      have hi : i < zs.length := (List.getElem?_eq_some_iff.mp hx).1
      have hz : zs = zs.take i ++ x :: zs.drop (i + 1) := by
        have := List.getElem?_eq_some_iff.mp hx
        obtain ⟨h, rfl⟩ := this
        rw [List.getElem_cons_drop, List.take_append_drop]
      rw [hz] at hp pw
      refine isLeast_of hl hp pw (fun w hw' => by have := hw w hw'; omega) ?_ ?_
      · exact hlt
      · omega
    · have z' : ¬ q - ((zs.take i).map (·.2)).sum - x.2 ≤ 0 := of_decide_eq_false z
      refine wps_next ⟨by omega, .d (.int x.1), .d (.int x.2), ?_⟩
      rw [e1, ← Int.sub_sub]; rfl
  · obtain ⟨hlt, _⟩ := hI
    rw [List.length_map, List.take_length, hs] at hlt
    omega
theorem w_settle {ws qs : List Int} {rs : List (List Int)} (h : okQ ws qs) (hr : okR ws.length qs.length rs) (k : ∀ r, isMade ws qs rs r → P.rt (encR r)) : wps K b (t_settle K C) [.d (dC C ws qs), .d (dRs rs), .u, .u, .u, .u, .u, .u] P := by
  unfold t_settle
  obtain ⟨⟨hw2, hw7⟩, ⟨hq1, hq6⟩, hws, hqs⟩ := h
  refine wps_seq (wps_asg (wpe_l (wpl_methy (wpe_var (by rfl) ⟨_, _, rfl, no_weights, wpa_nil ⟨(ws, qs), rfl, trivial, fun es he => ?_⟩⟩))))
  subst he
  refine wps_seq (wps_asg (wpe_l (wpl_gen1 (R := fun j y => y = dI (rs.map fun r => rget r (j : Nat))) (wpi_rng1 (wpa_cons (wpe_methx (wpe_var (by rfl) ⟨_, _, rfl, no_width, wpa_nil ⟨(ws, qs), rfl, trivial, fun n hn => ?_⟩⟩)))))))
  subst hn
  refine wpa_nil ⟨(qs.length : Nat), rfl, by omega, by omega, by rw [rangeD_len]; omega, fun j d hd => ?_, fun acc hl hR => ?_⟩
  · obtain ⟨hj, rfl⟩ := rangeD_at hd
    refine wpe_l (wpl_gen1 (R := fun i y => ∃ r, rs[i]? = some r ∧ y = .int (rget r (j : Nat))) (wpi_list (wpe_var (by rfl) ⟨_, rfl, by rw [List.length_map, hr.1]; omega, fun i d hd => ?_, fun acc hl hR => ?_⟩)))
    · obtain ⟨r, hr1, rfl, hm⟩ := map_mem hd
      have hrl := (hr.2 r hm).1
      refine wpe_op (wpe_var (by rfl) (wpe_var (by rfl) (rd_ixt (rget_at (c := (0 : Int) + (j : Nat)) (by omega) (by omega)) ⟨r, hr1, ?_⟩)))
      rw [Int.zero_add]
    · show D.lst acc = dI _
      unfold dI
      congr 1
      refine list_of_get (by rw [hl]; simp) fun i y z => ?_
      obtain ⟨r, e1, rfl⟩ := hR i y z
      rw [List.getElem?_map, List.getElem?_map, e1]; rfl
  rw [rangeD_len] at hl
  refine wps_ret (wpe_cb (wpa_cons (wpe_l (wpl_gen2 (R := fun j y => ∃ m : Int, y = .int m ∧ ∀ q, qs[j]? = some q → isLeast (rs.map fun r => rget r (j : Nat)) ws q m) (wpi_zip (wpa_cons (wpe_var (by rfl) (wpa_cons (wpe_l (wpl_methy (wpe_var (by rfl) ⟨_, _, rfl, no_quotas, wpa_nil ⟨(ws, qs), rfl, trivial, fun es he => ?_⟩⟩)))))))))))
  subst he
  refine wpa_nil ⟨_, _, rfl, by rw [zipD_len, List.length_map]; omega, fun j d hd => ?_, fun acc2 hl2 hR2 => wpa_nil (rc_tupleL ?_)⟩
  · have hj : j < qs.length := by
      have := (List.getElem?_eq_some_iff.mp hd).1
      rw [zipD_len, List.length_map] at this; omega
    have e1 : acc[j]? = some (dI (rs.map fun r => rget r (j : Nat))) := by
      have : acc[j]? = some acc[j] := List.getElem?_eq_getElem (by omega)
      rw [this, hR j _ this]
    have e2 : (qs.map D.int)[j]? = some (.int qs[j]) := by rw [List.getElem?_map, List.getElem?_eq_getElem hj]; rfl
    rw [zipD_get e1 e2] at hd
    cases hd
    refine ⟨_, _, rfl, wpe_callx (wpa_cons (wpe_var (by rfl) (wpa_cons (wpe_var (by rfl) (wpa_cons (wpe_var (by rfl) (wpa_nil ⟨(rs.map fun r => rget r (j : Nat), ws, qs[j]), rfl, ⟨?_, ?_, ?_⟩, fun y hy => ?_⟩)))))))⟩
    · show (rs.map _).length = ws.length
      rw [List.length_map, hr.1]
    · exact fun w hw => (hws w hw).1
    · exact hqs _ (List.getElem_mem _)
    · obtain ⟨m, rfl, hm⟩ := hy
      refine ⟨m, rfl, fun q hq => ?_⟩
      rw [List.getElem?_eq_getElem hj] at hq
      cases hq
      exact hm
  · obtain ⟨r, rfl, hr2⟩ := ints_of hR2
    refine k r ⟨?_, fun c q m hq hm => hr2 c m hm q hq⟩
    rw [List.length_map, zipD_len, List.length_map] at hl2
    have e : (ws, qs).2.length = qs.length := rfl
    omega
end
end DL

namespace DL
open PySem PySem.Spec PyProof.Rows L2
section
variable {K : PySem.W.Frag} {C : Addr} {b : Bg} {P : Po}
theorem w_law_alike {x : D} (h1 : D.ok 9 x = true) (h2 : D.sm x = true) (h3 : x.cost ≤ 10000000) (k : P.rt (.bl true)) : wps K b (t_law_alike K C) [.d x, .d x] P := by
  unfold t_law_alike
  refine wps_ret (wpe_and (wpe_op (wpe_var (by rfl) (wpe_var (by rfl) (rd_eqD 9 (by decide) h1 h1 ⟨_, rfl, ?_⟩)))))
  rw [eq_self 9 h1]
  refine ifT (wpe_op (wpe_cb (wpa_cons (wpe_var (by rfl) (wpa_nil (rc_repr 9 (by decide) h1 h2 h3 (wpe_cb (wpa_cons (wpe_var (by rfl) (wpa_nil (rc_repr 9 (by decide) h1 h2 h3 ?_)))))))))))
  refine rd_eqS ?_
  rw [decide_eq_true rfl]
  exact k
theorem w_law_made {p : List Int × List Int} (h : okQ p.1 p.2) (k : P.rt (dC C p.1 p.2)) : wps K b (t_law_made K C) [.d (dPt p)] P := by
  unfold t_law_made
  refine wps_ret (wpe_make (wpa_cons (wpe_l (wpl_cb (wpa_cons (wpe_op (wpe_var (by rfl) (wpe_int (rd_ixt (by rfl) (wpa_nil (rcl_listL ?_)))))))))))
  refine wpa_cons (wpe_l (wpl_cb (wpa_cons (wpe_op (wpe_var (by rfl) (wpe_int (rd_ixt (by rfl) (wpa_nil (rcl_listL ?_)))))))))
  exact wpa_nil ⟨p.1, p.2, rfl, h, k⟩
theorem w_law_value (hb : b.isSome = true) (k : ∀ v : Int, v.natAbs ≤ 10 ^ 18 → P.rt (.int v)) : wps K b (t_law_value K C) [.d .bag, .u, .u] P := by
  unfold t_law_value
  refine wps_seq (wps_asg (wtakeC hb (by rfl) (by decide) (by decide) fun w w0 w1 => ?_))
  refine wps_seq (wps_if (wpt_test (wpe_op (wpe_var (by rfl) (wpe_int (rd_I0b ⟨_, rfl, ifB (fun _ => ?_) (fun z => ?_)⟩))))))
  · refine wps_ret (wpe_op (wtakeC hb (by rfl) (by decide) (by decide) fun v v0 v1 => wpe_int (rd_I0i (k _ ?_))))
    omega
  · have hw : ¬ w < 2 := of_decide_eq_false z
    refine wps_next (wps_seq (wps_asg (wpe_l (wpl_lst (wpa_cons (wpe_op (wpe_op (wpe_int (wpe_int (rd_I ⟨by decide, by decide, by decide⟩ ?_))))))))))
    rw [pow18]
    refine wtakeC hb (by rfl) (by decide) (by decide) fun v1 a1 b1 => rd_I0i ?_
    refine wpa_cons (wpe_op (wtake hb (by rfl) (wpe_op (wpe_op (wpe_int (wpe_op (wpe_int (wpe_int (rd_I ⟨by decide, by decide, by decide⟩ ?_)))))))))
    rw [pow18]
    refine rd_I (.inl (by decide)) (wpe_int (rd_I0i ⟨_, rfl, by decide, by decide, fun v2 a2 b2 => wpe_op (wpe_int (wpe_int (rd_I ⟨by decide, by decide, by decide⟩ ?_)))⟩))
    rw [pow18]
    refine rd_I0i (wpa_nil ⟨len_le rfl, ?_⟩)
    refine wps_ret (wpe_op (wpe_op (wpe_var (by rfl) (wpe_op (wpe_var (by rfl) (wpe_int (rd_I0i ?_)))))))
    obtain ⟨d, e, hd⟩ := atI_mem (ds := [D.int (1000000000000000000 - v1), .int (v2 - 1000000000000000000)]) (i := w - 2) (by omega) (by show w - 2 < 2; omega)
    refine rd_ixl e ?_
    have hdv : ∃ v : Int, d = .int v ∧ v.natAbs ≤ 10 ^ 18 := by
      simp only [List.mem_cons, List.not_mem_nil, or_false] at hd
      rcases hd with rfl | rfl <;> exact ⟨_, rfl, by omega⟩
    obtain ⟨v, rfl, hv⟩ := hdv
    refine wpe_op (wpe_l (wpl_lst (wpa_cons (wpe_int (wpa_cons (wpe_un (wpe_int (rd_neg ?_))))))))
    refine wpa_nil ⟨len_le rfl, wtakeC hb (by rfl) (by decide) (by decide) fun s s0 s1 => ?_⟩
    have hs : s = 0 ∨ s = 1 := by omega
    rcases hs with rfl | rfl
    · exact rd_ixl (d := .int 1) rfl (rd_I (.inr (by decide)) (k _ (by omega)))
    · exact rd_ixl (d := .int (-1)) rfl (rd_I (.inr (by decide)) (k _ (by omega)))
theorem w_law_council {w m : Nat} (hb : b.isSome = true) (hw1 : 1 ≤ w) (hw6 : w ≤ 6) (hm2 : 2 ≤ m) (hm7 : m ≤ 7) (k : ∀ p, okQ p.1 p.2 → p.2.length = w → p.1.length ≤ m → P.rt (dPt p)) :
    wps K b (t_law_council K C) [.d .bag, .d (.int w), .d (.int m), .u, .u, .u, .u, .u, .u, .u, .u] P := by
  unfold t_law_council
  refine wps_seq (wps_asgt [3, 4] (wpe_tup (wpa_cons (wpe_op (wpe_int (wtake hb (by rfl) (wpe_op (wpe_var (by rfl) (wpe_int (rd_I0i ⟨_, rfl, by omega, by omega, fun s s0 s1 => rd_I0i ?_⟩))))))))))
  refine wpa_cons (wtakeC hb (by rfl) (by decide) (by decide) fun way y0 y1 => ?_)
  refine wpa_nil ⟨len_le rfl, wpg_tup (by rfl) (wpgs_cons (wpg_name (by simp) (wpgs_cons (wpg_name (by simp) (wpgs_nil ?_)))))⟩
  refine wps_seq (wps_asg (wpe_l (wpl_gen1 (R := fun _ y => ∃ x : Int, y = .int x ∧ 1 ≤ x ∧ x ≤ 1000000) (wpi_rng1 (wpa_cons (wpe_var (by rfl) (wpa_nil ⟨2 + s, rfl, by omega, by omega, by rw [rangeD_len]; omega, fun j d hd => ?_, fun acc hl hR => ?_⟩)))))))
  · refine wpe_op (wpe_int (wtake hb (by rfl) (wpe_op (wpe_l (wpl_lst (wpa_cons (wpe_int (wpa_cons (wpe_int (wpa_cons (wpe_int (wpa_cons (wpe_int (wpa_cons (wpe_int (wpa_nil ⟨len_le rfl, wpe_var (by rfl) ?_⟩))))))))))))))))
    obtain ⟨d', e, hd'⟩ := atI_mem (ds := [D.int 1, .int 1, .int 2, .int 5, .int 1000000]) y0 (by simpa using y1)
    refine rd_ixl e ?_
    have hn : ∃ n : Int, d' = .int n ∧ 1 ≤ n ∧ n ≤ 1000000 := by
      simp only [List.mem_cons, List.not_mem_nil, or_false] at hd'
      rcases hd' with rfl | rfl | rfl | rfl | rfl <;> exact ⟨_, rfl, by omega, by omega⟩
    obtain ⟨n, rfl, n1, n2⟩ := hn
    exact ⟨n, rfl, by omega, by omega, fun v v0 v1 => rd_I0i ⟨1 + v, rfl, by omega, by omega⟩⟩
  rw [rangeD_len] at hl
  obtain ⟨ws, rfl, hws⟩ := ints_of hR
  rw [List.length_map] at hl
  have hws' : ∀ x ∈ ws, 1 ≤ x ∧ x ≤ 1000000 := fun x hx => by
    obtain ⟨j, hj⟩ := List.mem_iff_getElem?.mp hx
    exact hws j x hj
  have hwl : (2 ≤ ws.length ∧ ws.length ≤ 7) ∧ ws.length ≤ m := by omega
  have hsum : 1 ≤ ws.sum ∧ ws.sum ≤ 7000000 := sum_bounds hwl.1 hws'
  refine wps_seq (wps_asg (wpe_cb (wpa_cons (wpe_var (by rfl) (wpa_nil (rc_sum ?_))))))
  generalize hT : ws.sum = T at hsum ⊢
  refine wps_seq (wps_asgl (wpl_lst (wpa_nil ⟨by decide, ?_⟩)))
  refine wps_seq (wps_for [8] (wpi_rng1 (wpa_cons (wpe_var (by rfl) (wpa_nil ⟨w, rfl, by omega, by omega, fun i E => ∃ qs : List Int, qs.length = i ∧ (∀ q ∈ qs, 1 ≤ q ∧ q ≤ T) ∧ ∃ a8 a9, E = [.d .bag, .d (.int w), .d (.int m), .d (.int (2 + s)), .d (.int way), .d (dI ws), .d (.int T), .o (qs.map D.int), a8, a9, .u],
    ⟨[], rfl, (fun _ z => nomatch z), _, _, rfl⟩, fun i d E hd hI => ?_, fun E hI => ?_⟩)))))
  · obtain ⟨qs, hql, hq, a8, a9, rfl⟩ := hI
    obtain ⟨hi, rfl⟩ := rangeD_at hd
    refine wpg_name (by simp) ?_
    refine wps_seq (wps_asg (wpe_l (wpl_lst (wpa_cons (wpe_op (wpe_op (wpe_var (by rfl) (wpe_int (rd_I ⟨by decide, by decide +kernel⟩ (wpe_int (rd_I0i ?_)))))))))))
    refine wpa_cons (wpe_op (wpe_int (wtake hb (by rfl) (wpe_var (by rfl) ⟨T, rfl, by omega, by omega, fun v v0 v1 => rd_I0i ?_⟩))))
    refine wpa_cons (wpe_int (wpa_cons (wpe_var (by rfl) (wpa_nil ⟨len_le rfl, ?_⟩))))
    refine wps_append (by rfl) (wpe_op (wpe_var (by rfl) (wpe_op (wpe_cb (wpa_cons (wpe_int (wpa_cons (wpe_op ?_))))))))
    refine wtakeC hb (by rfl) (by decide) (by decide) fun u u0 u1 => wpe_int (rd_I0i (wpa_nil (rcMax ?_)))
    refine wpe_cb (wpa_cons (wpe_op (wpe_var (by rfl) (wpe_int (rd_I0b (wpa_nil (rcIntB ?_)))))))
    have hix : ∃ n : Int, (if u - 2 > 0 then u - 2 else 0) * (if decide (0 < way) = true then 1 else 0) = n ∧ 0 ≤ n ∧ n < 4 := by
      refine ⟨_, rfl, ?_, ?_⟩
      · by_cases hz : 0 < way
        · rw [decide_eq_true hz, if_pos rfl]; split <;> omega
        · rw [decide_eq_false hz, if_neg Bool.false_ne_true]; omega
      · by_cases hz : 0 < way
        · rw [decide_eq_true hz, if_pos rfl]; split <;> omega
        · rw [decide_eq_false hz, if_neg Bool.false_ne_true]; omega
    obtain ⟨n, hn, n0, n4⟩ := hix
    refine rd_I (.inr ?_) ?_
    · by_cases hz : 0 < way
      · rw [decide_eq_true hz, if_pos rfl]; decide
      · rw [decide_eq_false hz, if_neg Bool.false_ne_true]; decide
    rw [hn]
    obtain ⟨d', e, hd'⟩ := atI_mem (ds := [D.int (T / 2 + 1), .int (1 + v), .int 1, .int T]) n0 (by simpa using n4)
    refine rd_ixl e ?_
    have hn : ∃ q : Int, d' = .int q ∧ 1 ≤ q ∧ q ≤ T := by
      have t1 : T / 2 ≤ T - 1 ∧ 0 ≤ T / 2 := by omega
      simp only [List.mem_cons, List.not_mem_nil, or_false] at hd'
      rcases hd' with rfl | rfl | rfl | rfl <;> exact ⟨_, rfl, by omega, by omega⟩
    obtain ⟨q, rfl, q1, q2⟩ := hn
    refine ⟨by rw [List.length_map]; omega, qs ++ [q], by rw [List.length_append, hql]; rfl, fun x hx => ?_, .d (.int (0 + (i : Nat))), .d (dI [T / 2 + 1, 1 + v, 1, T]), ?_⟩
    · rcases List.mem_append.mp hx with hx | hx
      · exact hq x hx
      · rw [List.mem_singleton.mp hx]; exact ⟨q1, q2⟩
    · rw [List.map_append]; rfl
  · obtain ⟨qs, hql, hq, a8, a9, rfl⟩ := hI
    rw [rangeD_len] at hql
    refine wps_frz 7 (by rfl) (wps_ret (wpe_tup (wpa_cons (wpe_var (by rfl) (wpa_cons (wpe_var (by rfl) (wpa_nil ⟨len_le rfl, ?_⟩)))))))
    refine k (ws, qs) ⟨hwl.1, ?_, hws', fun q hq' => ?_⟩ ?_ hwl.2
    · show 1 ≤ qs.length ∧ qs.length ≤ 6; omega
    · have := hq q hq'
      show 1 ≤ q ∧ q ≤ ws.sum
      rw [hT]; exact this
    · show qs.length = w; omega
theorem eq_nilR (rs : List (List Int)) : D.eq (dRs rs) (.lst []) = rs.isEmpty := by
  cases rs with
  | nil => decide +kernel
  | cons q ws => rfl
theorem dRs_ok (n : Nat) (rs : List (List Int)) : D.ok (n + 2) (dRs rs) = true := by
  unfold dRs D.ok
  refine okA_of fun d hd => ?_
  obtain ⟨q, _, rfl⟩ := List.mem_map.mp hd
  exact encR_ok n q
theorem ok_nil9 : D.ok 9 (.lst []) = true := by decide +kernel
theorem w_law_seat_rows {w m : Nat} (hb : b.isSome = true) (hw1 : 1 ≤ w) (hw6 : w ≤ 6) (hm7 : m ≤ 7) (k : ∀ rs, okR m w rs → P.rl (rs.map encR)) :
    wps K b (t_law_seat_rows K C) [.d .bag, .d (.int w), .d (.int m), .u, .u, .u, .u, .u] P := by
  unfold t_law_seat_rows
  refine wps_seq (wps_asg_e (by decide) (wpe_op (wpe_l (wpl_lst (wpa_cons (wpe_int (wpa_cons (wpe_int (wpa_cons (wpe_int (wpa_nil ⟨len_le rfl, ?_⟩)))))))))))
  refine wtakeC hb (by rfl) (by decide) (by decide) fun u u0 u1 => ?_
  obtain ⟨d', e, hd'⟩ := atI_mem (ds := [D.int 1, .int 3, .int 0]) u0 (by simpa using u1)
  refine rd_ixl e ?_
  have hn : ∃ t : Int, d' = .int t ∧ 0 ≤ t ∧ t ≤ 3 := by
    simp only [List.mem_cons, List.not_mem_nil, or_false] at hd'
    rcases hd' with rfl | rfl | rfl <;> exact ⟨_, rfl, by omega, by omega⟩
  obtain ⟨t, rfl, t0, t3⟩ := hn
  refine wps_seq (wps_for [5] (wpi_rng1 (wpa_cons (wpe_var (by rfl) (wpa_nil ⟨m, rfl, by omega, by omega, fun i E => ∃ rs, okR i w rs ∧ ∃ a5 a6, E = [.d .bag, .d (.int w), .d (.int m), .d (.int t), .o (rs.map encR), a5, a6, .u],
    ⟨[], ⟨rfl, fun _ z => nomatch z⟩, _, _, rfl⟩, fun i d E hd hI => ?_, fun E hI => ?_⟩)))))
  · obtain ⟨rs, hrs, a5, a6, rfl⟩ := hI
    obtain ⟨hi, rfl⟩ := rangeD_at hd
    refine wpg_name (by simp) ?_
    refine wps_seq (wps_asg (wpe_cb (wpa_cons (wpe_l (wpl_gen1 (R := fun _ y => ∃ v : Int, y = .int v ∧ v.natAbs ≤ 10 ^ 18) (wpi_rng1 (wpa_cons (wpe_var (by rfl) (wpa_nil ⟨w, rfl, by omega, by omega, by rw [rangeD_len]; omega, fun j d hd => ?_, fun acc hl hR => wpa_nil (rc_tupleL ?_)⟩)))))))))
    · refine wpe_if (wpt_test (wpe_op (wpe_var (by rfl) (wpe_int (rd_I0b ⟨_, rfl, ifB (fun z => ?_) (fun z => ?_)⟩)))))
      · have z' : 0 < t := of_decide_eq_true z
        refine wtake hb (by rfl) (wpe_op (wpe_var (by rfl) (wpe_int (rd_I0i ⟨_, rfl, by omega, by omega, fun v v0 v1 => ⟨v, rfl, by omega⟩⟩))))
      · exact wpe_callx (wpa_cons (wpe_var (by rfl) (wpa_nil ⟨(), rfl, hb, fun x hx => hx⟩)))
    rw [rangeD_len] at hl
    obtain ⟨r, rfl, hr⟩ := ints_of hR
    rw [List.length_map] at hl
    have hrow : r.length = w ∧ ∀ v ∈ r, v.natAbs ≤ 10 ^ 18 := ⟨by omega, fun v hv => by
      obtain ⟨j, hj⟩ := List.mem_iff_getElem?.mp hv
      exact hr j v hj⟩
    have hlen : rs.length = i := hrs.1
    -- the row that is appended
    refine wps_seq (wps_mono (P := { nx := fun E => ∃ r : List Int, (r.length = w ∧ ∀ v ∈ r, v.natAbs ≤ 10 ^ 18) ∧ E = [.d .bag, .d (.int w), .d (.int m), .d (.int t), .o (rs.map encR), .d (.int (0 + (i : Nat))), .d (encR r), .u], rt := fun _ => False }) (wps_if (wpt_and (wpt_lend 4 (by rfl) (wpt_test (wpe_op (wpe_var (by rfl) (wpe_l (wpl_lst (wpa_nil ⟨len_le rfl, rd_neD 9 (by decide) (dRs_ok 7 rs) ok_nil9 ⟨_, rfl, ?_⟩⟩))))))))) ?_ (fun _ z => z.elim) (fun _ z => z.elim) (fun _ z => z.elim) (fun _ z => z.elim))
    · rw [eq_nilR rs]
      refine ifB (fun z => ?_) (fun z => ifF (wps_next ⟨r, hrow, rfl⟩))
      have hne : rs ≠ [] := fun z2 => by rw [z2] at z; exact Bool.false_ne_true z
      have hpos : 0 < rs.length := List.length_pos_iff.mpr hne
      refine wpt_test (wpe_op (wtakeC hb (by rfl) (by decide) (by decide) fun v v0 v1 => wpe_int (rd_eqD 9 (by decide) (by rfl) (by rfl) ⟨_, rfl, ifB (fun _ => ?_) (fun _ => ?_)⟩)))
      · refine wps_asg (wpe_ixo' (by rfl) (wtake hb (by rfl) (wpe_lend 4 (by rfl) (wpe_cb (wpa_cons (wpe_var (by rfl) (wpa_nil (rc_lenL ⟨trivial, _, rfl, ?_, ?_, fun x x0 x1 => ?_⟩))))))))
        · rw [List.length_map]; omega
        · rw [List.length_map]; omega
        · obtain ⟨d, ed, hdm⟩ := atI_mem (ds := rs.map encR) x0 x1
          obtain ⟨r2, hr2, rfl⟩ := List.mem_map.mp hdm
          exact ⟨x, _, rfl, ed, r2, hrs.2 r2 hr2, rfl⟩
      · exact wps_next ⟨r, hrow, rfl⟩
    rintro E ⟨r2, hr2, rfl⟩
    refine wps_append (by rfl) (wpe_var (by rfl) ⟨by rw [List.length_map]; omega, rs ++ [r2], ⟨by rw [List.length_append, hlen]; rfl, fun x hx => ?_⟩, .d (.int (0 + (i : Nat))), .d (encR r2), ?_⟩)
    · rcases List.mem_append.mp hx with hx | hx
      · exact hrs.2 x hx
      · rw [List.mem_singleton.mp hx]; exact hr2
    · rw [List.map_append]; rfl
  · obtain ⟨rs, hrs, a5, a6, rfl⟩ := hI
    rw [rangeD_len] at hrs
    exact wps_reto (by rfl) (k rs hrs)
theorem w_law_due {p : List Int × List Int} {rs : List (List Int)} (h : okQ p.1 p.2) (hr : okR p.1.length p.2.length rs) (k : ∀ r, isMade p.1 p.2 rs r → P.rt (encR r)) : wps K b (t_law_due K C) [.d (dPt p), .d (dRs rs), .u, .u, .u, .u, .u, .u, .u, .u] P := by
  obtain ⟨ws, qs⟩ := p
  obtain ⟨⟨hw2, hw7⟩, ⟨hq1, hq6⟩, hws, hqs⟩ := h
  unfold t_law_due
  have hw7' : ws.length ≤ 7 := hw7
  have e1 : ((ws, qs) : List Int × List Int).1.length = ws.length := rfl
  have e2 : ((ws, qs) : List Int × List Int).2.length = qs.length := rfl
  have hq6' : qs.length ≤ 6 := hq6
  have hrl : rs.length = ws.length := hr.1
  refine wps_seq (wps_asgt [2, 3] (wpe_var (by rfl) (wpg_tup (by rfl) (wpgs_cons (wpg_name (by simp) (wpgs_cons (wpg_name (by simp) (wpgs_nil ?_)))))))) 
  refine wps_seq (wps_asgl (wpl_lst (wpa_nil ⟨by decide, ?_⟩)))
  refine wps_seq (wps_for [5] (wpi_rng1 (wpa_cons (wpe_cb (wpa_cons (wpe_var (by rfl) (wpa_nil (rc_lenL ?_))))))))
  refine wpa_nil ⟨_, rfl, by rw [List.length_map]; omega, by rw [List.length_map]; omega, fun i E => ∃ ms : List Int, ms.length = i ∧ (∀ (c : Nat) q m, qs[c]? = some q → ms[c]? = some m → isLeast (rs.map fun r => rget r c) ws q m) ∧ ∃ a5 a6 a7, E = [.d (dPt (ws, qs)), .d (dRs rs), .d (dI ws), .d (dI qs), .o (ms.map D.int), a5, a6, a7, .u, .u],
    ⟨[], rfl, fun c q m _ z => by simp at z, _, _, _, rfl⟩, fun i d E hd hI => ?_, fun E hI => ?_⟩
  · obtain ⟨ms, hml, hm, a5, a6, a7, rfl⟩ := hI
    obtain ⟨hi, rfl⟩ := rangeD_at hd
    rw [List.length_map] at hi
    have hi' : i < qs.length := by omega
    have hqi : qs[i]? = some qs[i] := List.getElem?_eq_getElem hi'
    generalize hq : qs[i] = q at hqi
    have hq' : 1 ≤ q ∧ q ≤ ws.sum := by rw [← hq]; exact hqs _ (List.getElem_mem _)
    refine wpg_name (by simp) ?_
    refine wps_seq (wps_asgl (wpl_lst (wpa_nil ⟨by decide, ?_⟩)))
    obtain ⟨es, hes⟩ : ∃ es, (rs.map fun r => rget r (i : Nat)) = es := ⟨_, rfl⟩
    have hel : es.length = ws.length := by rw [← hes, List.length_map, hrl]
    refine wps_seq (wps_for [7] (wpi_list (wpe_l (wpl_gen1 (R := fun j y => ∃ r, rs[j]? = some r ∧ y = .int (rget r (i : Nat))) (wpi_list (wpe_var (by rfl) ⟨_, rfl, by rw [List.length_map]; omega, fun j d hd => ?_, fun acc hl hR => ?_⟩))))))
    · obtain ⟨r, hr1, rfl, hmem⟩ := map_mem hd
      have hrl := (hr.2 r hmem).1
      refine wpe_op (wpe_var (by rfl) (wpe_var (by rfl) (rd_ixt (rget_at (c := (0 : Int) + (i : Nat)) (by omega) (by rw [hrl]; show (0 : Int) + i < qs.length; omega)) ⟨r, hr1, ?_⟩)))
      rw [Int.zero_add]
    have hacc : acc = es.map D.int := by
      refine list_of_get (by rw [hl, ← hes]; simp) fun j y z => ?_
      obtain ⟨r, e1, rfl⟩ := hR j y z
      rw [← hes, List.getElem?_map, List.getElem?_map, e1]; rfl
    subst hacc
    refine ⟨_, rfl, fun j E => ∃ a7, E = [.d (dPt (ws, qs)), .d (dRs rs), .d (dI ws), .d (dI qs), .o (ms.map D.int), .d (.int (0 + (i : Nat))), .o (((es.take j).filter fun e => decide (q ≤ wz (es.zip ws) e)).map D.int), a7, .u, .u], ⟨_, rfl⟩, fun j d E hd hI => ?_, fun E hI => ?_⟩
    · obtain ⟨a7, rfl⟩ := hI
      obtain ⟨e, he, rfl, hem⟩ := map_mem hd
      have hjl : j < es.length := (List.getElem?_eq_some_iff.mp he).1
      refine wpg_name (by simp) ?_
      refine wps_if (wpt_test (wpe_op (wpe_cb (wpa_cons (wpe_l (wpl_lc (wpi_rng1 (wpa_cons (wpe_cb (wpa_cons (wpe_var (by rfl) (wpa_nil (rc_lenL ?_))))))))))))) 
      refine wpa_nil ⟨_, rfl, by rw [List.length_map]; omega, by rw [List.length_map]; omega, by rw [rangeD_len, List.length_map]; omega, fun n acc => acc = ((((es.zip ws).take n).filter fun p => decide (p.1 ≤ e)).map (·.2)).map D.int, rfl, fun n d acc hd hl hI => ?_, fun acc hI => ?_⟩
      · obtain ⟨hn, rfl⟩ := rangeD_at hd
        rw [List.length_map] at hn
        have hn' : n < ws.length := by omega
        have hnr : n < rs.length := by omega
        have er : (rs.map encR)[n]? = some (encR rs[n]) := by rw [List.getElem?_map, List.getElem?_eq_getElem hnr]; rfl
        have ew : (ws.map D.int)[n]? = some (.int ws[n]) := by rw [List.getElem?_map, List.getElem?_eq_getElem hn']; rfl
        have hrn := (hr.2 rs[n] (List.getElem_mem _)).1
        have ez : (es.zip ws)[n]? = some (rget rs[n] (i : Nat), ws[n]) := by
          rw [List.getElem?_zip_eq_some]
          exact ⟨by rw [← hes, List.getElem?_map, List.getElem?_eq_getElem hnr]; rfl, List.getElem?_eq_getElem hn'⟩
        refine wpg_name (by simp) (wpt_test (wpe_op (wpe_op (wpe_op (wpe_var (by rfl) (wpe_var (by rfl) (rd_ixl (d := encR rs[n]) ?_ (wpe_var (by rfl) (rd_ixt (rget_at (c := (0 : Int) + (i : Nat)) (by omega) (by rw [hrn]; show (0 : Int) + i < qs.length; omega)) (wpe_var (by rfl) (rd_I0b ⟨_, rfl, ifB (fun z => ?_) (fun z => ?_)⟩))))))))))) 
        · rw [Int.zero_add]; exact atI_of er
        · have z' : rget rs[n] ((0 : Int) + (i : Nat)) ≤ e := of_decide_eq_true z
          rw [Int.zero_add] at z'
          refine wpe_op (wpe_var (by rfl) (wpe_var (by rfl) (rd_ixl (d := .int ws[n]) ?_ ?_)))
          · rw [Int.zero_add]; exact atI_of ew
          · rw [hI]
            show _ = List.map D.int (List.map _ (List.filter _ (List.take (n + 1) (es.zip ws))))
            rw [filter_succ ez, if_pos (by simpa using z'), List.map_append, List.map_append]; rfl
        · have z' : ¬ rget rs[n] ((0 : Int) + (i : Nat)) ≤ e := of_decide_eq_false z
          rw [Int.zero_add] at z'
          rw [hI]
          show _ = List.map D.int (List.map _ (List.filter _ (List.take (n + 1) (es.zip ws))))
          rw [filter_succ ez, if_neg (by simpa using z'), List.append_nil]
      have hzl : (es.zip ws).length = ws.length := by rw [List.length_zip]; omega
      rw [rangeD_len, List.length_map, show ((ws.length : Nat) : Int).toNat = (es.zip ws).length by rw [hzl]; rfl, List.take_length] at hI
      subst hI
      refine wpa_nil (rc_sum (wpe_op (wpe_var (by rfl) (wpe_var (by rfl) (rd_ixl (d := .int q) ?_ (rd_I0b ⟨_, rfl, ?_⟩))))))
      · rw [Int.zero_add]
        exact atI_of (by rw [List.getElem?_map, hqi]; rfl)
      have ef := filter_succ (f := fun e => decide (q ≤ wz (es.zip ws) e)) he
      refine ifB (fun z => ?_) (fun z => ?_)
      · have z' : decide (q ≤ wz (es.zip ws) e) = true := z
        rw [if_pos z'] at ef
        refine wps_append (by rfl) (wpe_var (by rfl) ⟨?_, .d (.int e), ?_⟩)
        · rw [List.length_map]
          have := List.length_filter_le (fun e => decide (q ≤ wz (es.zip ws) e)) (es.take j)
          rw [List.length_take] at this
          omega
        · rw [ef, List.map_append]; rfl
      · have z' : decide (q ≤ wz (es.zip ws) e) = false := z
        rw [if_neg (by rw [z']; exact Bool.false_ne_true), List.append_nil] at ef
        exact wps_next ⟨.d (.int e), by rw [ef]; rfl⟩
    · obtain ⟨a7, rfl⟩ := hI
      rw [List.length_map, List.take_length]
      obtain ⟨m0, hm0⟩ := isLeast_ex hel (fun w hw => (hws w hw).1) hq'.1 hq'.2
      have hmem : m0 ∈ es.filter fun e => decide (q ≤ wz (es.zip ws) e) := List.mem_filter.mpr ⟨hm0.1, decide_eq_true hm0.2.1⟩
      refine wps_frz 6 (by rfl) (wps_append (by rfl) (wpe_cb (wpa_cons (wpe_var (by rfl) (wpa_nil (rcMinL (List.length_pos_of_mem hmem) fun m h1 h2 => ?_))))))
      obtain ⟨h1a, h1b⟩ := List.mem_filter.mp h1
      have hlm : isLeast (rs.map fun r => rget r (i : Nat)) ws q m := by
        rw [hes]
        exact ⟨h1a, of_decide_eq_true h1b, fun e he hqe => h2 e (List.mem_filter.mpr ⟨he, decide_eq_true hqe⟩)⟩
      refine ⟨by rw [List.length_map]; omega, ms ++ [m], by rw [List.length_append, hml]; rfl, fun c q' m' e1 e2 => ?_, .d (.int (0 + (i : Nat))), .d (dI (es.filter fun e => decide (q ≤ wz (es.zip ws) e))), a7, ?_⟩
      · rcases get_snoc e2 with e2 | ⟨e3, rfl⟩
        · exact hm c q' m' e1 e2
        · rw [e3, hml] at e1 ⊢
          rw [hqi] at e1
          cases e1
          exact hlm
      · rw [List.map_append]; rfl
  · obtain ⟨ms, hml, hm, a5, a6, a7, rfl⟩ := hI
    rw [rangeD_len, List.length_map] at hml
    refine wps_frz 4 (by rfl) (wps_ret (wpe_cb (wpa_cons (wpe_var (by rfl) (wpa_nil (rc_tupleL ?_))))))
    exact k ms ⟨by show ms.length = qs.length; omega, hm⟩
end
end DL

namespace DL
open PySem PySem.Spec PyProof.Rows L2
theorem atI_lastE {α : Type} {xs : List α} (h : xs ≠ []) : ∃ d, atI xs (-1) = some d ∧ d ∈ xs := by
  obtain ⟨ys, y, rfl⟩ : ∃ ys y, xs = ys ++ [y] := ⟨_, _, (List.dropLast_concat_getLast h).symm⟩
  exact ⟨y, atI_last ys y, List.mem_append_right _ (List.mem_singleton.mpr rfl)⟩
theorem ixN_of {n : Nat} {i : Int} (h0 : 0 ≤ i) (h1 : i < n) : ixN n i = some i.toNat := by
  unfold ixN; rw [if_pos h0, if_pos h1]
theorem dI_ok (n : Nat) (r : List Int) : D.ok (n + 1) (dI r) = true := by
  unfold dI D.ok
  refine okA_of fun d hd => ?_
  obtain ⟨q, _, rfl⟩ := List.mem_map.mp hd
  cases n <;> rfl
theorem ints_sm {r : List Int} (h : ∀ v ∈ r, v.natAbs < 10 ^ 50) : D.smA (r.map D.int) = true := smA_of fun d hd => by
  obtain ⟨q, hq, rfl⟩ := List.mem_map.mp hd
  unfold D.sm
  exact decide_eq_true (h q hq)
theorem ints_cost (r : List Int) : D.costA (r.map D.int) ≤ r.length * 62 := by
  have := costA_le (c := 60) (ds := r.map D.int) (fun d hd => by
    obtain ⟨q, _, rfl⟩ := List.mem_map.mp hd
    exact Nat.le_refl _)
  rw [List.length_map] at this
  exact this
theorem dI_sm {r : List Int} (h : ∀ v ∈ r, v.natAbs < 10 ^ 50) : D.sm (dI r) = true := by unfold dI D.sm; exact ints_sm h
theorem encR_sm {r : List Int} (h : ∀ v ∈ r, v.natAbs < 10 ^ 50) : D.sm (encR r) = true := by unfold encR D.sm; exact ints_sm h
theorem dI_cost (r : List Int) : D.cost (dI r) ≤ r.length * 62 + 5 := by unfold dI D.cost; have := ints_cost r; omega
theorem encR_cost (r : List Int) : D.cost (encR r) ≤ r.length * 62 + 5 := by unfold encR D.cost; have := ints_cost r; omega
/-- what a row made of rows within bounds holds -/
theorem isMade_sm {ws qs : List Int} {rs : List (List Int)} {r : List Int} {n w : Nat} (hr : okR n w rs) (hw : 1 ≤ w) (hq : qs.length = w) (h : isMade ws qs rs r) : ∀ v ∈ r, v.natAbs ≤ 10 ^ 18 := fun v hv => by
  obtain ⟨c, hc⟩ := List.mem_iff_getElem?.mp hv
  have hcl : c < r.length := (List.getElem?_eq_some_iff.mp hc).1
  have hcq : c < qs.length := by rw [← h.1]; exact hcl
  have hl := (h.2 c _ v (List.getElem?_eq_getElem hcq) hc).1
  obtain ⟨r', hr', rfl⟩ := List.mem_map.mp hl
  have e1 := (hr.2 r' hr').1
  have hcr : c < r'.length := by omega
  have : rget r' (c : Nat) = r'[c] := by unfold rget; rw [Int.toNat_natCast, List.getD, List.getElem?_eq_getElem hcr]; rfl
  rw [this]
  exact (hr.2 r' hr').2 _ (List.getElem_mem _)
theorem lt50 {v : Int} (h : v.natAbs ≤ 10 ^ 18) : v.natAbs < 10 ^ 50 := Nat.lt_of_le_of_lt h (by decide)
section
variable {K : PySem.W.Frag} {C : Addr} {vs : List V} {H : Hp} {Q : VK} {EE : XK}
theorem ln_is_integer (h : sp_is_integer K C vs H Q EE) : vs.length = 1 := ln_x h fun _ => rfl
theorem ln_are_counts (h : sp_are_counts K C vs H Q EE) : vs.length = 4 := ln_x h fun _ => rfl
theorem ln_are_weights (h : sp_are_weights K C vs H Q EE) : vs.length = 1 := ln_x h fun _ => rfl
theorem ln_are_quotas (h : sp_are_quotas K C vs H Q EE) : vs.length = 2 := ln_x h fun _ => rfl
theorem ln_C_init (h : sp_C_init K C vs H Q EE) : vs.length = 3 := by
  obtain ⟨_, _, _, _, _, _, _, _, rfl, _⟩ := h; rfl
theorem ln_C_weights (h : sp_C_weights K C vs H Q EE) : vs.length = 1 := ln_y h fun _ => rfl
theorem ln_C_quotas (h : sp_C_quotas K C vs H Q EE) : vs.length = 1 := ln_y h fun _ => rfl
theorem ln_C_width (h : sp_C_width K C vs H Q EE) : vs.length = 1 := ln_x h fun _ => rfl
theorem ln_settled (h : sp_settled K C vs H Q EE) : vs.length = 3 := ln_x h fun _ => rfl
theorem ln_settle (h : sp_settle K C vs H Q EE) : vs.length = 2 := ln_x h fun _ => rfl
theorem ln_law_alike (h : sp_law_alike K C vs H Q EE) : vs.length = 2 := ln_x h fun _ => rfl
theorem ln_law_council (h : sp_law_council K C vs H Q EE) : vs.length = 3 := ln_x h fun _ => rfl
theorem ln_law_made (h : sp_law_made K C vs H Q EE) : vs.length = 1 := ln_x h fun _ => rfl
theorem ln_law_value (h : sp_law_value K C vs H Q EE) : vs.length = 1 := ln_x h fun _ => rfl
theorem ln_law_seat_rows (h : sp_law_seat_rows K C vs H Q EE) : vs.length = 3 := ln_x h fun _ => rfl
theorem ln_law_due (h : sp_law_due K C vs H Q EE) : vs.length = 2 := ln_x h fun _ => rfl
theorem ln_law_bag (h : sp_law_bag K C vs H Q EE) : vs.length = 1 := by obtain ⟨_, _, rfl, _⟩ := h; rfl
theorem ln_law (h : sp_law K C vs H Q EE) : vs.length = 1 := by obtain ⟨_, _, rfl, _⟩ := h; rfl
theorem ln_law_take (h : sp_law_take K C vs H Q EE) : vs.length = 2 := ln_of h
theorem r_x2 {α : Type} {args : α → List D} {pre : Bg → α → Prop} {post : α → D → Prop} {N : List Str} {t : TS} (h : Sx K args pre post vs H Q EE)
    (w : ∀ b a, pre b a → wps K b t (startE N.length (args a)) { nx := fun _ => post a .non, rt := post a, rl := fun es => post a (.lst es) }) : t { nx := fun _ H' => Q .non H', rt := Q } (L2.start N vs) H := r_x w h
theorem r_y2 {α : Type} {args : α → List D} {pre : Bg → α → Prop} {post : α → List D → Prop} {N : List Str} {t : TS} (h : Sy K args pre post vs H Q EE)
    (w : ∀ b a, pre b a → wps K b t (startE N.length (args a)) { nx := fun _ => False, rt := fun _ => False, rl := post a }) : t { nx := fun _ H' => Q .non H', rt := Q } (L2.start N vs) H := r_y w h
abbrev De (Q : VK) : Ends := { nx := fun _ H' => Q .non H', rt := Q }
theorem r_is_integer (cf : CF K C) (h : sp_is_integer K C vs H Q EE) : t_is_integer K C (De Q) (L2.start ["thing"] vs) H := r_x2 (N := ["thing"]) h (fun b a hp => w_is_integer rfl)
theorem r_are_counts (cf : CF K C) (h : sp_are_counts K C vs H Q EE) : t_are_counts K C (De Q) (L2.start ["thing", "fewest", "most", "greatest", "part"] vs) H := r_x2 (N := ["thing", "fewest", "most", "greatest", "part"]) h (fun b a hp => w_are_counts hp.1 hp.2.1 hp.2.2.1 hp.2.2.2 rfl)
theorem r_are_weights (cf : CF K C) (h : sp_are_weights K C vs H Q EE) : t_are_weights K C (De Q) (L2.start ["thing"] vs) H := r_x2 (N := ["thing"]) h (fun b a hp => w_are_weights hp.1 hp.2 rfl)
theorem r_are_quotas (cf : CF K C) (h : sp_are_quotas K C vs H Q EE) : t_are_quotas K C (De Q) (L2.start ["thing", "total"] vs) H := r_x2 (N := ["thing", "total"]) h (fun b a hp => w_are_quotas hp.1 hp.2 rfl)
theorem r_C_init (cf : CF K C) (h : sp_C_init K C vs H Q EE) : t_C_init K C (De Q) (L2.start ["self", "weights", "quotas"] vs) H :=
  r_init cf.cl cf.nW cf.nQ (fun b ws qs ok => wpt_not (wpt_B (wpe_callx (wpa_cons (wpe_var (by rfl) (wpa_nil ⟨ws, rfl, ⟨ok.1, ok.2.2.1⟩, fun x hx => ⟨true, hx, rfl⟩⟩))))))
    (fun b ws qs ok => wpt_not (wpt_B (wpe_callx (wpa_cons (wpe_var (by rfl) (wpa_cons (wpe_cb (wpa_cons (wpe_var (by rfl) (wpa_nil (rc_sum (wpa_nil ⟨(qs, ws.sum), rfl, ⟨ok.2.1, ok.2.2.2⟩, fun x hx => ⟨true, hx, rfl⟩⟩))))))))))))
    (fun b ws qs ok => wpl_cb (wpa_cons (wpe_var (by rfl) (wpa_nil (rcl_listL rfl))))) (fun b ws qs ok => wpl_cb (wpa_cons (wpe_var (by rfl) (wpa_nil (rcl_listL rfl))))) h
theorem r_C_weights (cf : CF K C) (h : sp_C_weights K C vs H Q EE) : t_C_weights K C (De Q) (L2.start ["self"] vs) H := r_y2 (N := ["self"]) h (fun b a hp => w_C_weights cf rfl)
theorem r_C_quotas (cf : CF K C) (h : sp_C_quotas K C vs H Q EE) : t_C_quotas K C (De Q) (L2.start ["self"] vs) H := r_y2 (N := ["self"]) h (fun b a hp => w_C_quotas cf rfl)
theorem r_C_width (cf : CF K C) (h : sp_C_width K C vs H Q EE) : t_C_width K C (De Q) (L2.start ["self"] vs) H := r_x2 (N := ["self"]) h (fun b a hp => w_C_width cf rfl)
theorem r_settled (cf : CF K C) (h : sp_settled K C vs H Q EE) : t_settled K C (De Q) (L2.start ["entries", "weights", "quota", "lacking", "entry", "weight"] vs) H :=
  r_x2 (N := ["entries", "weights", "quota", "lacking", "entry", "weight"]) h (fun b a hp => w_settled hp.1 hp.2.1 hp.2.2.1 hp.2.2.2 fun m hm => ⟨m, rfl, hm⟩)
theorem r_settle (cf : CF K C) (h : sp_settle K C vs H Q EE) : t_settle K C (De Q) (L2.start ["council", "rows", "weights", "columns", "column", "row", "entries", "quota"] vs) H :=
  r_x2 (N := ["council", "rows", "weights", "columns", "column", "row", "entries", "quota"]) h (fun b a hp => w_settle hp.1 hp.2 fun r hr => ⟨r, rfl, hr⟩)
theorem r_law_alike (cf : CF K C) (h : sp_law_alike K C vs H Q EE) : t_law_alike K C (De Q) (L2.start ["found", "due"] vs) H := r_x2 (N := ["found", "due"]) h (fun b a hp => w_law_alike hp.1 hp.2.1 hp.2.2 rfl)
theorem r_law_council (cf : CF K C) (h : sp_law_council K C vs H Q EE) : t_law_council K C (De Q) (L2.start ["bag", "width", "most", "seats", "way", "weights", "total", "quotas", "column", "some", "k"] vs) H :=
  r_x2 (N := ["bag", "width", "most", "seats", "way", "weights", "total", "quotas", "column", "some", "k"]) h (fun b a hp => w_law_council hp.1 hp.2.1 hp.2.2.1 hp.2.2.2.1 hp.2.2.2.2 fun p h1 h2 h3 => ⟨p, rfl, h1, h2, h3⟩)
theorem r_law_made (cf : CF K C) (h : sp_law_made K C vs H Q EE) : t_law_made K C (De Q) (L2.start ["parts"] vs) H := r_x2 (N := ["parts"]) h (fun b a hp => w_law_made hp rfl)
theorem r_law_value (cf : CF K C) (h : sp_law_value K C vs H Q EE) : t_law_value K C (De Q) (L2.start ["bag", "way", "some"] vs) H := r_x2 (N := ["bag", "way", "some"]) h (fun b a hp => w_law_value hp fun v hv => ⟨v, rfl, hv⟩)
theorem r_law_seat_rows (cf : CF K C) (h : sp_law_seat_rows K C vs H Q EE) : t_law_seat_rows K C (De Q) (L2.start ["bag", "width", "many", "top", "found", "seat", "row", "column"] vs) H :=
  r_x2 (N := ["bag", "width", "many", "top", "found", "seat", "row", "column"]) h (fun b a hp => w_law_seat_rows hp.1 hp.2.1 hp.2.2.1 hp.2.2.2 fun rs h => ⟨rs, rfl, h⟩)
theorem r_law_due (cf : CF K C) (h : sp_law_due K C vs H Q EE) : t_law_due K C (De Q) (L2.start ["parts", "rows", "weights", "quotas", "found", "column", "some", "entry", "row", "k"] vs) H :=
  r_x2 (N := ["parts", "rows", "weights", "quotas", "found", "column", "some", "entry", "row", "k"]) h (fun b a hp => w_law_due hp.1 hp.2 fun r hr => ⟨r, rfl, hr⟩)
theorem r_law_bag (cf : CF K C) (h : sp_law_bag K C vs H Q EE) : t_law_bag K C (De Q) (L2.start ["script", "cell"] vs) H := r_bag h
theorem r_law_take (cf : CF K C) (h : sp_law_take K C vs H Q EE) : t_law_take K C (De Q) (L2.start ["bag", "many", "cell", "value", "first", "second"] vs) H := r_take h
end
end DL

namespace DL
open PySem PySem.Spec PyProof.Rows L2
/-! a list of lists that are all the def's own: nothing else holds them -/
structure NlOk (K : PySem.W.Frag) (b : Bg) (F H : Hp) (p : Addr) (qs : List Addr) (dss : List (List D)) : Prop where
  Fp : F p = none
  bp : ∀ c, b ≠ some (p, c)
  hp : H p = some (.lst (qs.map V.ref))
  nd : qs.Nodup
  np : p ∉ qs
  len : qs.length = dss.length
  it : ∀ (j : Nat) (q : Addr) (ds : List D), qs[j]? = some q → dss[j]? = some ds → F q = none ∧ (∀ c, b ≠ some (q, c)) ∧ ∃ vs, H q = some (.lst vs) ∧ DvA K b F vs ds
section
variable {K : PySem.W.Frag} {b : Bg} {E : Env'} {ta tb te : TE} {t u : TS} {P : Po} {Φ : D → Prop} {F H F' H' : Hp} {p : Addr} {qs : List Addr} {dss : List (List D)}
theorem NlOk.mem (N : NlOk K b F H p qs dss) {q : Addr} (h : q ∈ qs) : ∃ (j : Nat) (ds : List D), qs[j]? = some q ∧ dss[j]? = some ds ∧ F q = none ∧ (∀ c, b ≠ some (q, c)) ∧ ∃ vs, H q = some (.lst vs) ∧ DvA K b F vs ds := by
  obtain ⟨j, hj⟩ := List.mem_iff_getElem?.mp h
  have hl : j < dss.length := by rw [← N.len]; exact (List.getElem?_eq_some_iff.mp hj).1
  have hd := List.getElem?_eq_getElem hl
  exact ⟨j, _, hj, hd, N.it j q _ hj hd⟩
theorem NlOk.step (N : NlOk K b F H p qs dss) (s : Step b F H F' H') : NlOk K b F' H' p qs dss :=
  ⟨s.out p N.Fp (by rw [N.hp]; exact fun z => nomatch z), N.bp, s.keep p _ N.bp N.hp, N.nd, N.np, N.len, fun j q ds h1 h2 =>
    let ⟨a1, a2, vs, a3, a4⟩ := N.it j q ds h1 h2
    ⟨s.out q a1 (by rw [a3]; exact fun z => nomatch z), a2, vs, s.keep q _ a2 a3, a4.up s.ex⟩⟩
/-- .. in a new list of new lists -/
def wpn (K : PySem.W.Frag) (b : Bg) (t : TE) (E : Env') (Φ : List (List D) → Prop) : Prop := ∀ H0 F H σ, Wd K b F H → EnvD K b H0 F H σ E →
  ∀ Q : VK, (∀ p qs F' H' dss, Step b F H F' H' → Wd K b F' H' → H p = none → (∀ q ∈ qs, H q = none) → NlOk K b F' H' p qs dss → Φ dss → Q (.ref p) H') → t σ H Q
theorem wpn_lc {wi : TI} {g : TG} {tt : TT} {vs : List Nat} {Φ : List (List D) → Prop} (h : wpi K b wi E fun ds => ds.length ≤ 100000 ∧ ∃ I : Nat → List (List D) → Prop, I 0 [] ∧
      (∀ (i : Nat) d acc, ds[i]? = some d → acc.length ≤ i → I i acc → wpg K b vs g d (wipeE E vs) fun E2 => wpt K b tt E2 fun r => if r = true then wpl K b te E2 fun y => I (i + 1) (acc ++ [y]) else I (i + 1) acc) ∧ ∀ acc, I ds.length acc → Φ acc) :
    wpn K b (tLc wi g tt te vs) E Φ := fun H0 F H σ w e Q k =>
  h H0 F H σ w e _ fun J F1 H1 ds s1 w1 it q => by
    intro Dn hDn
    obtain ⟨hz, I, i0, turn, fin⟩ := q
    have F1n := w1.outN hDn
    have nbD := w1.nb hDn
    obtain ⟨w1', s1'⟩ := w1.newO (o := .lst []) hDn
    refine ⟨fun i m H' => m = ds.length - i ∧ i ≤ ds.length ∧ ∃ F' qs acc, Step b F1 H1 F' H' ∧ Wd K b F' H' ∧ NlOk K b F' H' Dn qs acc ∧ (∀ q ∈ qs, H1 q = none) ∧ acc.length ≤ i ∧ I i acc,
      ⟨ds.length, by omega, Nat.zero_le _, F1, [], [], s1', w1', ⟨F1n, nbD, upd_same, List.nodup_nil, by simp, rfl, fun j q ds h => by simp at h⟩, (fun _ z => nomatch z), Nat.le_refl _, i0⟩, ?_⟩
    rintro i m H2 ⟨rfl, hi, F2, qs, acc, s2, w2, N2, fr, l2, q2⟩
    by_cases hlt : i < ds.length
    · refine .inr ⟨it.go i F2 H2 s2.ex w2 hlt, fun H' => ∃ F' qs acc, Step b F1 H1 F' H' ∧ Wd K b F' H' ∧ NlOk K b F' H' Dn qs acc ∧ (∀ q ∈ qs, H1 q = none) ∧ acc.length ≤ i + 1 ∧ I (i + 1) acc,
        fun H' n => ⟨ds.length - (i + 1), by omega, rfl, hlt, n⟩, fun x H3 hy => ?_⟩
      obtain ⟨F3, d, s3, w3, hd, hv⟩ := it.yld i F2 H2 x H3 s2.ex w2 hlt hy
      have s13 := s2.trans s3 w2
      refine turn i d acc hd l2 q2 H0 F3 H3 (wipe σ vs) x w3 ((e.step (s1.trans s13 w1)).wipe vs) hv _ fun σ4 F4 H4 E4 s4 w4 e4 l4 j4 q4 => ?_
      refine ⟨wipe_same l4 (fun j hj => j4 j hj) |>.trans ?_, ?_⟩
      · exact wipe_same (wipe_length ..) fun j hj => wipe_other σ vs j hj
      refine q4 H0 F4 H4 σ4 w4 e4 _ fun r F5 H5 s5 w5 q5 => ?_
      have s25 := (s3.trans s4 w3).trans s5 w4
      have N5 := N2.step s25
      cases r with
      | false => exact ⟨F5, qs, acc, s2.trans s25 w2, w5, N5, fr, Nat.le_succ_of_le l2, q5⟩
      | true =>
        refine q5 H0 F5 H5 σ4 w5 (e4.step s5) _ fun p2 vs2 F6 H6 yd s6 w6 n1 n2 n3 d6 q6 => ?_
        have N6 := N5.step s6
        have s26 := s25.trans s6 w5
        have s16 := s2.trans s26 w2
        have hp2 : H1 p2 = none := (s2.trans s25 w2).fresh w5 n1
        have p2q : p2 ∉ qs := fun z => by
          obtain ⟨_, _, _, _, _, _, vs', h5', _⟩ := N5.mem z
          rw [n1] at h5'; cases h5'
        have p2D : p2 ≠ Dn := fun z => by rw [z, N5.hp] at n1; cases n1
        have nb2 := w5.nb n1
        refine ⟨qs.map V.ref, N6.hp, by rw [List.length_map, N6.len]; exact Nat.lt_of_le_of_lt (Nat.le_trans l2 (Nat.le_of_lt hlt)) (Nat.lt_of_le_of_lt hz (by decide)), F6, qs ++ [p2], acc ++ [yd], ?_, w6.turn N6.Fp nbD, ?_, fun q hq => ?_, by rw [List.length_append]; exact Nat.succ_le_succ l2, q6⟩
        · exact ⟨s16.ex, fun a o n e => by rw [upd_ne (ne_of_none e hDn)]; exact s16.keep a o n e, s16.out⟩
        · refine ⟨N6.Fp, nbD, by rw [upd_same, List.map_append]; rfl, ?_, ?_, by rw [List.length_append, List.length_append, N6.len]; rfl, fun j q ds h1 h2 => ?_⟩
          · refine List.nodup_append.mpr ⟨N6.nd, by simp, fun a ha c hc z => ?_⟩
            rw [List.mem_singleton.mp hc] at z
            exact p2q (z ▸ ha)
          · intro z
            rcases List.mem_append.mp z with z | z
            · exact N6.np z
            · exact p2D (List.mem_singleton.mp z).symm
          · rcases get_snoc h1 with h1 | ⟨z1, rfl⟩
            · have hj : j < acc.length := by rw [← N6.len]; exact (List.getElem?_eq_some_iff.mp h1).1
              rw [List.getElem?_append_left hj] at h2
              obtain ⟨a1, a2, vs', a3, a4⟩ := N6.it j q ds h1 h2
              exact ⟨a1, a2, vs', by rw [upd_ne (show q ≠ Dn from fun z => N6.np (by rw [← z]; exact List.mem_of_getElem? h1))]; exact a3, a4⟩
            · rw [z1, N6.len, List.getElem?_append_right (Nat.le_refl _), Nat.sub_self] at h2
              cases h2
              exact ⟨n2, nb2, vs2, by rw [upd_ne p2D]; exact n3, d6⟩
        · rcases List.mem_append.mp hq with hq | hq
          · exact fr q hq
          · rw [List.mem_singleton.mp hq]; exact hp2
    · have hi' : i = ds.length := by omega
      subst hi'
      exact .inl ⟨it.stop _ F2 H2 s2.ex w2 (Nat.le_refl _), k Dn qs F2 H2 acc (s1.trans s2 w1) w2 (s1.fresh w1 hDn) (fun q hq => s1.fresh w1 (fr q hq)) N2 (fin acc q2)⟩
/-- a promise: a new list of new lists out -/
def Sn {α : Type} (K : PySem.W.Frag) (args : α → List D) (pre : Bg → α → Prop) (post : α → List (List D) → Prop) : Sp := fun vs H Q _ => ∃ b F a, Wd K b F H ∧ DvA K b F vs (args a) ∧ pre b a ∧
  ∀ p qs F' H' dss, Step b F H F' H' → Wd K b F' H' → H p = none → (∀ q ∈ qs, H q = none) → NlOk K b F' H' p qs dss → post a dss → Q (.ref p) H'
theorem wpn_call {α : Type} {args : α → List D} {pre : Bg → α → Prop} {post : α → List (List D) → Prop} {EE : XK} {tr : TA} {Φ : List (List D) → Prop} (h : wpa K b tr E fun xs => ∃ a, xs = args a ∧ pre b a ∧ ∀ x, post a x → Φ x) : wpn K b (tCall (Sn K args pre post) [] EE tr) E Φ := fun H0 F H σ w e Q k =>
  h H0 F H σ w e _ fun vs F1 H1 xs s1 w1 d1 p1 => by
    obtain ⟨a, rfl, h1, h2⟩ := p1
    rw [List.append_nil]
    exact ⟨b, F1, a, w1, d1, h1, fun p qs F' H' dss s w' n1 n2 N q => k p qs F' H' dss (s1.trans s w1) w' (s1.fresh w1 n1) (fun q hq => s1.fresh w1 (n2 q hq)) N (h2 dss q)⟩
theorem ln_n {α : Type} {args : α → List D} {pre : Bg → α → Prop} {post : α → List (List D) → Prop} {n : Nat} {vs : List V} {H : Hp} {Q : VK} {EE : XK} (h : Sn K args pre post vs H Q EE) (hn : ∀ a, (args a).length = n) : vs.length = n := by
  obtain ⟨_, _, a, _, h, _⟩ := h
  exact h.len.trans (hn a)
/-- statements, then a new list of new lists is returned -/
theorem wpn_seq {te te2 : TE} {i : Nat} {Φ : List (List D) → Prop} {Q : VK} {σ : L2.St} {H0 F H : Hp} (w : Wd K b F H) (e : EnvD K b H0 F H σ E) (h : wpe K b te E fun x => wpn K b te2 (E.set i (.d x)) Φ) (nx : L2.St → Hp → Prop)
    (k : ∀ p qs F' H' dss, Step b F H F' H' → Wd K b F' H' → H p = none → (∀ q ∈ qs, H q = none) → NlOk K b F' H' p qs dss → Φ dss → Q (.ref p) H') :
    tSeq (tAsg te (gName i)) (tRet te2) { nx := nx, rt := Q } σ H :=
  h H0 F H σ w e _ fun v F1 H1 x s1 w1 d1 p1 => p1 H0 F1 H1 _ w1 ((e.step s1).setD d1) Q fun p qs F' H' dss s2 w2 n1 n2 N q => k p qs F' H' dss (s1.trans s2 w1) w2 (s1.fresh w1 n1) (fun q hq => s1.fresh w1 (n2 q hq)) N q
/-! lent out -/
theorem dva_refs {G : Hp} : ∀ {qs : List Addr} {dss : List (List D)}, qs.length = dss.length → (∀ (j : Nat) q ds, qs[j]? = some q → dss[j]? = some ds → ∃ vs, G q = some (.lst vs) ∧ DvA K b G vs ds) → DvA K b G (qs.map V.ref) (dss.map D.lst)
  | [], [], _, _ => .nil
  | q :: qs, ds :: dss, hl, h => by
    obtain ⟨vs, h1, h2⟩ := h 0 q ds rfl rfl
    exact .cons (.lst h1 h2) (dva_refs (by simpa using hl) fun j q' ds' e1 e2 => h (j + 1) q' ds' (by simpa using e1) (by simpa using e2))
  | [], _ :: _, hl, _ => by simp at hl
  | _ :: _, [], hl, _ => by simp at hl
theorem lendN {H0 : Hp} {σ : L2.St} {i : Nat} (N : NlOk K b F H p qs dss) (w : Wd K b F H) (e : EnvD K b H0 F H σ E) (ho : ∀ (j : Nat) (ds : List D), E[j]? ≠ some (.o ds)) (hs : σ[i]? = some (some (.ref p))) :
    ∃ G, Wd K b G H ∧ EnvD K b H0 G H σ (E.set i (.d (.lst (dss.map D.lst)))) ∧ ∀ G' H', Step b G H G' H' → Wd K b G' H' → ∃ F', Step b F H F' H' ∧ Wd K b F' H' := by
  classical
  let G : Hp := fun a => if a = p ∨ a ∈ qs then H a else F a
  have inF : ∀ a, a = p ∨ a ∈ qs → F a = none := fun a ha => by
    rcases ha with rfl | ha
    · exact N.Fp
    · obtain ⟨_, _, _, _, h, _⟩ := N.mem ha; exact h
  have gF : ∀ a o, F a = some o → G a = some o := fun a o h => by
    show (if a = p ∨ a ∈ qs then H a else F a) = _
    rw [if_neg (fun z => by rw [inF a z] at h; cases h)]; exact h
  have gH : ∀ a o, G a = some o → H a = some o := fun a o h => by
    have h' : (if a = p ∨ a ∈ qs then H a else F a) = some o := h
    by_cases z : a = p ∨ a ∈ qs
    · rw [if_pos z] at h'; exact h'
    · rw [if_neg z] at h'; exact w.ex a o h'
  have gIn : ∀ a, (a = p ∨ a ∈ qs) → G a = H a := fun a z => by
    show (if a = p ∨ a ∈ qs then H a else F a) = _
    rw [if_pos z]
  have gOut : ∀ a, ¬ (a = p ∨ a ∈ qs) → G a = F a := fun a z => by
    show (if a = p ∨ a ∈ qs then H a else F a) = _
    rw [if_neg z]
  have nbag : ∀ a c, b = some (a, c) → ¬ (a = p ∨ a ∈ qs) := fun a c hb z => by
    rcases z with rfl | z
    · exact N.bp c hb
    · obtain ⟨_, _, _, _, _, h, _⟩ := N.mem z; exact h c hb
  have wG : Wd K b G H := ⟨gH, fun a c hb => by
    have B := w.bag a c hb
    obtain ⟨ns, s1, s2⟩ := B.cell
    exact ⟨by rw [gOut a (nbag a c hb)]; exact B.out, B.bag, ⟨ns, exL gF s1, s2⟩⟩⟩
  refine ⟨G, wG, ?_, fun G' H' s w' => ⟨fun a => if a = p ∨ a ∈ qs then none else G' a, ⟨fun a o q => ?_, s.keep, fun a e1 e2 => ?_⟩, fun a o q => ?_, fun a c hb => ?_⟩⟩
  · have e' : EnvD K b H0 G H σ E := ⟨e.len, fun j x h => let ⟨v, h1, h2⟩ := e.dat j x h; ⟨v, h1, h2.up gF⟩, fun j ds h => absurd h (ho j ds), fun j k ds es r h => absurd h (ho j ds)⟩
    have hd : Dv K b G (.ref p) (.lst (dss.map D.lst)) := .lst (by rw [gIn p (.inl rfl)]; exact N.hp) (dva_refs N.len fun j q ds h1 h2 => by
      obtain ⟨_, _, vs, a3, a4⟩ := N.it j q ds h1 h2
      exact ⟨vs, by rw [gIn q (.inr (List.mem_of_getElem? h1))]; exact a3, a4.up gF⟩)
    have e2 := e'.setD (i := i) hd
    have es : σ.set i (some (.ref p)) = σ := by
      refine List.ext_getElem? fun j => ?_
      by_cases hj : i = j
      · subst hj
        rw [List.getElem?_set_self (List.getElem?_eq_some_iff.mp hs).1, hs]
      · rw [List.getElem?_set_ne hj]
    rw [es] at e2
    exact e2
  · show (if a = p ∨ a ∈ qs then none else G' a) = some o
    rw [if_neg (fun z => by rw [inF a z] at q; cases q)]
    exact s.ex a o (gF a o q)
  · show (if a = p ∨ a ∈ qs then none else G' a) = none
    by_cases z : a = p ∨ a ∈ qs
    · rw [if_pos z]
    · rw [if_neg z]; exact s.out a (by rw [gOut a z]; exact e1) e2
  · have q' : (if a = p ∨ a ∈ qs then none else G' a) = some o := q
    by_cases z : a = p ∨ a ∈ qs
    · rw [if_pos z] at q'; cases q'
    · rw [if_neg z] at q'; exact w'.ex a o q'
  · have B := w'.bag a c hb
    have A := w.bag a c hb
    obtain ⟨ns, s1, s2⟩ := A.cell
    refine ⟨?_, B.bag, ⟨ns, exL (fun a o q => ?_) s1, s2⟩⟩
    · show (if a = p ∨ a ∈ qs then none else G' a) = none
      rw [if_neg (nbag a c hb)]; exact B.out
    · show (if a = p ∨ a ∈ qs then none else G' a) = some o
      rw [if_neg (fun z => by rw [inF a z] at q; cases q)]
      exact s.ex a o (gF a o q)
/-! statements while slot i holds such a list -/
def wpsN (K : PySem.W.Frag) (b : Bg) (i : Nat) (dss : List (List D)) (t : TS) (E : Env') (P : Po) : Prop := ∀ F0 H0 F H σ p qs, Step b F0 H0 F H → Wd K b F H → EnvD K b H0 F H σ E → σ[i]? = some (some (.ref p)) → H0 p = none → (∀ q ∈ qs, H0 q = none) → NlOk K b F H p qs dss →
  ∀ Dn : Ends, Ok K b F0 H0 F P Dn → t Dn σ H
theorem wpsN_asg {i : Nat} (h : wpn K b te E fun dss => wpsN K b i dss u (E.set i .u) P) (hi : i < E.length) : wps K b (tSeq (tAsg te (gName i)) u) E P := fun F0 H0 F H σ s w e Dn k =>
  h H0 F H σ w e _ fun p qs F' H' dss s' w' n1 n2 N q => by
    have e2 : EnvD K b H0 F' H' (σ.set i (some (.ref p))) (E.set i .u) := by
      refine ⟨by rw [List.length_set, List.length_set]; exact e.len, fun j x h => ?_, fun j ds h => ?_, fun j k ds es r h1 h2 h3 h4 => ?_⟩
      · rcases set_get h with ⟨_, z⟩ | ⟨z, h⟩
        · cases z
        · obtain ⟨v, a1, a2⟩ := (e.step s').dat j x h
          exact ⟨v, by rw [List.getElem?_set_ne z]; exact a1, a2⟩
      · rcases set_get h with ⟨_, z⟩ | ⟨z, h⟩
        · cases z
        · obtain ⟨r, us, a1, a2⟩ := (e.step s').own j ds h
          exact ⟨r, us, by rw [List.getElem?_set_ne z]; exact a1, a2⟩
      · rcases set_get h1 with ⟨_, z⟩ | ⟨z1, h1⟩
        · cases z
        · rcases set_get h2 with ⟨_, z⟩ | ⟨z2, h2⟩
          · cases z
          · rw [List.getElem?_set_ne z1] at h3
            rw [List.getElem?_set_ne z2] at h4
            exact e.inj j k ds es r h1 h2 h3 h4
    exact q F0 H0 F' H' _ p qs (s.trans s' w) w' e2 (List.getElem?_set_self (by rw [e.len]; exact hi)) (s.fresh w n1) (fun q hq => s.fresh w (n2 q hq)) N Dn (k.up s'.ex)
theorem wpsN_if {i : Nat} {c : TT} {t1 : TS} (ho : ∀ (j : Nat) (ds : List D), E[j]? ≠ some (.o ds)) (h : wpt K b c (E.set i (.d (.lst (dss.map D.lst)))) fun r => r = false ∧ wpsN K b i dss u E P) : wpsN K b i dss (tSeq (tIfS c t1 tNext) u) E P := fun F0 H0 F H σ p qs s w e hs h0 hq N Dn k => by
  obtain ⟨G, w1, e1, back⟩ := lendN N w e ho hs
  refine h H0 G H σ w1 e1 _ fun r G' H' s' w' q => ?_
  obtain ⟨rfl, q⟩ := q
  obtain ⟨F', s2, w2⟩ := back G' H' s' w'
  refine (if_neg Bool.false_ne_true : (if false = true then _ else _) = _).symm ▸ ?_
  exact q F0 H0 F' H' σ p qs (s.trans s2 w) w2 (e.step s2) hs h0 hq (N.step s2) Dn (k.up s2.ex)
/-- xss[j].append(n) -/
theorem wpsN_app {i j : Nat} {n : Int} {ds : List D} (ho : ∀ (j : Nat) (ds : List D), E[j]? ≠ some (.o ds)) (hd : dss[j]? = some ds) (hl : ds.length < 100000) (h : wpsN K b i (dss.set j (ds ++ [.int n])) u E P) : wpsN K b i dss (tSeq (tDrop (tBM K "list" rAppend (tOp (rIx K) (tVar i) (tC (.int (j : Nat)))) (tCons (tC (.int n)) tNil))) u) E P := fun F0 H0 F H σ p qs s w e hs h0 hq N Dn k => by
  have hj : j < qs.length := by rw [N.len]; exact (List.getElem?_eq_some_iff.mp hd).1
  have hqj : qs[j]? = some qs[j] := List.getElem?_eq_getElem hj
  generalize qs[j] = r at hqj
  obtain ⟨a1, a2, vs, a3, a4⟩ := N.it j r ds hqj hd
  have hrm : r ∈ qs := List.mem_of_getElem? hqj
  have hrp : r ≠ p := fun z => N.np (z ▸ hrm)
  have w2 : Wd K b F (upd H r (.lst (vs ++ [.int n]))) := w.turn a1 a2
  refine ⟨.ref p, hs, .inl ⟨p, qs.map V.ref, (j : Nat), .ref r, rfl, rfl, SqL.of N.hp, atI_nat (by rw [List.getElem?_map, hqj]; rfl), .inl ⟨rfl, vs, SqL.of a3⟩, r, vs, .int n, rfl, rfl, a3, by rw [a4.len]; exact Nat.lt_of_lt_of_le hl (by decide), ?_⟩⟩
  have e2 : EnvD K b H0 F (upd H r (.lst (vs ++ [.int n]))) σ E := ⟨e.len, e.dat, fun j ds z => absurd z (ho j ds), fun j k ds es r z => absurd z (ho j ds)⟩
  refine h F0 H0 F _ σ p qs (s.turn (hq r hrm)) w2 e2 hs h0 hq ⟨N.Fp, N.bp, by rw [upd_ne (fun z => hrp z.symm)]; exact N.hp, N.nd, N.np, by rw [List.length_set]; exact N.len, fun j' q' ds' h1 h2 => ?_⟩ Dn k
  rcases set_get h2 with ⟨z, z2⟩ | ⟨z, h2⟩
  · subst z
    rw [hqj] at h1
    cases h1
    subst z2
    exact ⟨a1, a2, vs ++ [.int n], upd_same, a4.app (.one (.int n))⟩
  · obtain ⟨c1, c2, vs', c3, c4⟩ := N.it j' q' ds' h1 h2
    refine ⟨c1, c2, vs', ?_, c4⟩
    rw [upd_ne (fun zz => z ((List.getElem?_inj hj N.nd).mp (hqj.trans (by rw [← zz]; exact h1.symm))))]
    exact c3
/-- xss.reverse(), at the end -/
theorem wpsN_rev {i : Nat} (ho : ∀ (j : Nat) (ds : List D), E[j]? ≠ some (.o ds)) (h : P.nx E) : wpsN K b i dss (tDrop (tBM0 K "list" rReverse (tVar i))) E P := fun F0 H0 F H σ p qs s w e hs h0 hq N Dn k => by
  refine ⟨.ref p, hs, .inl ⟨rfl, _, SqL.of N.hp⟩, p, _, rfl, rfl, N.hp, ?_⟩
  exact k.nx σ F _ E (Ex.refl _) (s.turn h0) (w.turn N.Fp N.bp) ⟨e.len, e.dat, fun j ds z => absurd z (ho j ds), fun j k ds es r z => absurd z (ho j ds)⟩ h
end
end DL

namespace DL
open PySem PySem.Spec PyProof.Rows L2
/-! enumerate(v), v anything whose iterator is known to begin; then a walk over enumerate(tuple) -/
theorem enum1_meets {v : Value} {o : Obj} {Hh : Heap → Prop} (B : Begins v o Hh) :
    Meets (Builtin.«enumerate.__new__» ⟨[.type "enumerate", v], []⟩) (fun _ R s => Hh s.heap ∧
      R (.ok (.ret (.ref (s.heap.push o).objs.size))) { s with heap := (s.heap.push o).push { cls := .type "enumerate", data := .fields #[.none, .bool false, .ref s.heap.objs.size, rawInt 0, .none, .none] } }) :=
  .of_wp fun prog w A R s h => by
    obtain ⟨hp, g, d, tk, os⟩ := s
    obtain ⟨h1, h⟩ := h
    have hsub := sub_enumerate
    have go : ∀ {A' : Around} {E : Value → Shared → Prop} {Q : Value → Shared → Prop}, Q (.ref hp.objs.size) ⟨hp.push o, g, d, tk, os⟩ → wpAny (model prog w) A' (pyIter v) Q E ⟨hp, g, d, tk, os⟩ :=
      fun q => B.iter prog w _ _ ⟨hp, g, d, tk, os⟩ _ h1 q
    wp_walk using go
    refine wpAny_stack_any fun st => wpAny_pure ?_
    split
    · rename_i c _ _ _ _ _
      cases (c == Value.type "enumerate") <;> (wp_walk using go; exact ⟨_, rfl, h⟩)
    · wp_walk using go
      exact ⟨_, rfl, h⟩
theorem enum1_call {prog : Program} {w : World} {A : Around} {E : Value → Shared → Prop} {s : Shared} {v : Value} {o : Obj} {Hh : Heap → Prop} {Q : Value → Shared → Prop} (B : Begins v o Hh) (h1 : Hh s.heap)
    (h : ∀ h', IsEnum h' (s.heap.objs.size + 1) s.heap.objs.size 0 .none → h'.get? s.heap.objs.size = some o → (∀ b ob, s.heap.get? b = some ob → h'.get? b = some ob) → Q (.ref (s.heap.objs.size + 1)) { s with heap := h' }) :
    wpAny (model prog w) A (call (.type "enumerate") [v]) Q E s := by
  refine callType_new F.called_enumerate (by decide) (F.typeCall_enumerate_1 _) (F.newCall_enumerate_1 _) (fun obj => F.args_object_init_2 obj _) F.entry_enumerate_new (enum1_meets B) ⟨h1, ?_⟩
  have hz : (s.heap.push o).objs.size = s.heap.objs.size + 1 := Heap.size_push ..
  have he := Heap.get?_push_size (s.heap.push o) (o := { cls := .type "enumerate", data := .fields #[.none, .bool false, .ref s.heap.objs.size, rawInt 0, .none, .none] }) rfl
  rw [hz] at he
  show _ ∧ _
  rw [hz]
  exact ⟨⟨_, he, rfl⟩, h _ he (Heap.get?_push_of_some _ (Heap.get?_push_size _ B.free)) fun b ob x => Heap.get?_push_of_some _ (Heap.get?_push_of_some _ x)⟩
/-- the tuple at a, each item in a new pair -/
def IteT (K : PySem.W.Frag) (a : Addr) : It :=
  ⟨fun i H => ∃ (xs : List V) (x : V), SqT K H a xs ∧ xs[i]? = some x, fun i H v H' => ∃ T x, v = .ref T ∧ H T = none ∧ H' = upd H T (.tup [.int (i : Nat), x]) ∧ ∀ xs, SqT K H a xs → xs[i]? = some x, fun i H => ∃ xs : List V, SqT K H a xs ∧ xs.length ≤ i⟩
theorem turn_enumT {P : Program} {w : World} {K : PySem.W.Frag} {elts : List Expr} {kk : Nat} {tpos : Pos} (a e it : Addr) (n1 : e ≠ it) (n2 : e ≠ a) (n3 : a ≠ it) :
    Turn P w K (.Tuple elts kk tpos) (IteT K a) [e, it] e (fun i h => (∃ old, IsEnum h e it ((i : Nat) : Int) old) ∧ h.IsTupleIter it a i) where
  mem := by simp
  obj := fun i h st b hb => by
    obtain ⟨⟨old, he⟩, o, ho, hc, hd⟩ := st
    rcases (by simpa using hb : b = e ∨ b = it) with z | z
    · rw [z]; exact ⟨_, he, fun v q => nomatch q⟩
    · rw [z]; exact ⟨o, ho, fun v q => by rw [hd] at q; cases q⟩
  keep := fun i h h' st k => let ⟨⟨old, he⟩, hi⟩ := st; ⟨⟨old, k e (by simp) _ he⟩, hi.at fun o q => k it (by simp) o q⟩
  item := by
    intro X hP hw hK hc i pins s σ H E I hf st hg
    subst hP hw hK
    obtain ⟨⟨old, he⟩, hit⟩ := st
    obtain ⟨xs, x, hq, hx⟩ := hg
    obtain ⟨its, rv, p, hz⟩ := I.tuple hq
    have hel : e < s.heap.objs.size := Heap.lt_size he
    have hil : it < s.heap.objs.size := by obtain ⟨_, q, _⟩ := hit; exact Heap.lt_size q
    have hi : i < its.toArray.size := by
      have h1 := (List.getElem?_eq_some_iff.mp hx).1
      have h2 := rv.length
      simp; omega
    have dr := Draws.tuple (prog := X.prog) (w := X.w) (show X.A.in1.handled = none from I.ok.hd hc) it a n3 its.toArray
    refine wpAny_pyNext_enum_itemD dr he ⟨hit, p⟩ hi n1 (by simp [n1, n2]) fun u h' tk hu ho st' hT hsz hk => ?_
    have ru : RelV x u := by
      obtain ⟨u2, h2, r2⟩ := rv.get hx
      have e3 : its[i]? = some u := by simpa using hu
      rw [h2] at e3
      cases e3
      exact r2
    refine ⟨_, rfl, wpAny_letOwnedTupleGo_enum (s := { s with heap := h', toks := tk + 1 }) ho fun h'' he' sb => ?_⟩
    have hT2 : h''.get? s.heap.objs.size = some { cls := .type "tuple", data := .seq #[.int i tk, u] } := (sb.2 _ (Nat.ne_of_gt hel)).trans hT
    have new : ObjOk X.prog X.w (upd H s.heap.objs.size (.tup [.int (i : Nat), x])) h'' s.heap.objs.size (.tup [.int (i : Nat), x]) :=
      ⟨by show 2 ≤ sizeLine; decide, [.int i tk, u], .cons ⟨_, rfl⟩ (.cons ru .nil), ⟨_, hT2, rfl, _, rfl⟩⟩
    have I1 : Inv X pins σ (upd H s.heap.objs.size (.tup [.int (i : Nat), x])) { s with heap := h'', toks := tk + 1 } :=
      I.turnedNew (ch := [e, it]) (fun b ob hb q => (sb.2 b (fun z => hb (by simp [z]))).trans (hk b ob (fun z => hb (by simp [z])) (fun z => hb (by simp [z])) q)) hf (Nat.le_refl _) new
    refine ⟨.ref s.heap.objs.size, _, I1, rfl, ⟨_, x, rfl, I.hok.fresh (Nat.le_refl _), rfl, fun ys hy => by rw [I.tuple_inj hy hq]; exact hx⟩, ⟨⟨u, ?_⟩, st'.1.at fun o q => (sb.2 it (Ne.symm n1)).trans q⟩, fun b hb => ?_⟩
    · have e1 : ((i + 1 : Nat) : Int) = (i : Int) + 1 := by omega
      rw [e1]; exact he'
    · have hb' : b < s.heap.objs.size := by
        rcases (by simpa using hb : b = e ∨ b = it) with z | z
        · rw [z]; exact hel
        · rw [z]; exact hil
      rw [upd_ne (Nat.ne_of_lt hb')]
      exact (hf b hb).1
  done := by
    intro X hP hw hK hc i pins s σ H E I hf st hg
    subst hP hw hK
    obtain ⟨⟨old, he⟩, hit⟩ := st
    obtain ⟨xs, hq, hx⟩ := hg
    obtain ⟨its, rv, p, hz⟩ := I.tuple hq
    obtain ⟨f0, f1, f2, f3, f4, f5⟩ := hf it (by simp)
    have hl := rv.length
    have hh : X.A.in1.handled = none := I.ok.hd hc
    refine wpAny_pyNext_enum_endD (n := i) (fp := [it, a]) (P := fun _ _ => True) (St := fun j h => j = i ∧ h.IsTupleIter it a j ∧ h.IsTuple a its.toArray) ⟨fun j h q => let ⟨o, ho, _⟩ := q.2.1; ⟨o, ho⟩, fun j h h' q hk => ⟨q.1, q.2.1.at fun o e => hk it (by simp) o e, q.2.2.at fun o e => hk a (by simp) o e⟩, fun j s Q E hj q => absurd q.1 (Nat.ne_of_lt hj), fun s Q E q hE => wpAny_nextOf_tuple_end hh q.2.1 q.2.2 (by simp; omega) hE⟩ he ⟨rfl, hit, p⟩ fun h' eb => ⟨rfl, I.turned (t' := s.toks) (fun b o hb q => eb b o hb q) f0 f1 f3 f4 f5⟩
  self := fun A i s Q E st h => let ⟨⟨_, he⟩, _⟩ := st; wpAny_pyIter_enum he h
def iEnumT (K : PySem.W.Frag) (ta : TA) : TI := fun σ H R => ta σ H fun vs H1 => ∃ a xs, vs = [.ref a] ∧ SqT K H1 a xs ∧ R (IteT K a) H1
theorem pi_enumT {X : Cx} {e : Expr} {ta : TA} {p pos tpos : Pos} {elts : List Expr} {kk : Nat} (hg : Gl X "enumerate") (hm : X.mg "enumerate" = none) (ha : PA X [e] ta) (hs : starEach [e] X.env = [(false, eval e X.env)] := by rfl) :
    PI X (.Tuple elts kk tpos) (.Call (.Name "enumerate" p) [e] [] pos) (iEnumT X.K ta) := by
  refine ⟨fun pins s σ H R I h => ?_⟩
  refine Call_ (ld_blt I hg hm boot_enumerate (PyProof.Rows.callWith_type1 (thn (ha.run pos pins s σ H _ I h) fun us s1 ⟨vs, H1, I1, r1, q1⟩ => ?_) hs rfl))
  obtain ⟨a, xs, ex, hq, q⟩ := q1
  subst ex
  cases r1 with
  | cons r rr =>
    cases rr
    cases r
    obtain ⟨its, rv, p', hz⟩ := I1.tuple hq
    have al : a < s1.heap.objs.size := by obtain ⟨_, q, _⟩ := (show s1.heap.IsTuple a its.toArray from p'); exact Heap.lt_size q
    refine enum1_call (begins_tuple a its.toArray) p' fun h' he hit hk => wpAny_pyIter_enum he ?_
    have I2 : Inv X pins σ H1 { s1 with heap := h' } := I1.kept (t' := s1.toks) hk
    refine ⟨s1.heap.objs.size + 1, [s1.heap.objs.size + 1, s1.heap.objs.size], _, _, H1, rfl, I2, turn_enumT a (s1.heap.objs.size + 1) s1.heap.objs.size (Nat.succ_ne_self _) (Nat.ne_of_gt (Nat.lt_succ_of_lt al)) (Nat.ne_of_lt al), ⟨⟨.none, he⟩, _, hit, rfl, rfl⟩, fun b hb => ?_, q⟩
    have hle : s1.heap.objs.size ≤ b := by
      rcases (by simpa using hb : b = s1.heap.objs.size + 1 ∨ b = s1.heap.objs.size) with z | z
      · rw [z]; exact Nat.le_add_right _ _
      · rw [z]; exact Nat.le_refl _
    exact I1.fpOk hle (I1.hok.fresh hle)
section
variable {K : PySem.W.Frag} {b : Bg} {E : Env'}
theorem wpi_enumT {tr : TA} {Φ : List D → Prop} (h : wpa K b tr E fun xs => ∃ ds, xs = [.tup ds] ∧ Φ (enumD ds)) : wpi K b (iEnumT K tr) E Φ := fun H0 F H σ w e R k =>
  h H0 F H σ w e _ fun us F' H' xs s' w' d q => by
    obtain ⟨ds, rfl, q⟩ := q
    cases d with
    | cons d1 d =>
      cases d
      cases d1 with
      | tup s a =>
        rename_i ad zs
        refine ⟨ad, zs, rfl, exT w'.ex s, k _ F' H' _ s' w' ⟨fun i F2 H2 x w2 hi => ?_, fun i F2 H2 x w2 hi => ?_, fun i F2 H2 v H3 x w2 hi y => ?_⟩ q⟩
        · rw [enumD_len] at hi
          exact ⟨zs, zs[i]'(by rw [a.len]; exact hi), exT (x.trans w2.ex) s, by simp [a.len, hi]⟩
        · rw [enumD_len] at hi
          exact ⟨zs, exT (x.trans w2.ex) s, by rw [a.len]; exact hi⟩
        · obtain ⟨T, z, rfl, nT, rfl, f⟩ := y
          have e := f zs (exT (x.trans w2.ex) s)
          obtain ⟨dz, e2, hz⟩ := a.getV e
          obtain ⟨w3, s3⟩ := w2.newD (o := .tup [.int (i : Nat), z]) nT
          exact ⟨_, _, s3, w3, by rw [enumD_get, e2]; rfl, .tup (.inl (.inl upd_same)) (.cons (.int _) (.one (hz.up (x.trans s3.ex))))⟩
end
end DL

namespace GL
open PySem PySem.Spec PyProof.Rows L2
/-! x == y of two instances of one class that has an own __eq__ -/
def rOwnI (C : Addr) (sp : Sp) (E : XK) : R2 := fun x y H Q => ∃ a dx fs b dy gs, x = .ref a ∧ y = .ref b ∧ H a = some (.ins C dx fs) ∧ H b = some (.ins C dy gs) ∧ sp [x, y] H Q E
theorem op_ownI {X : Cx} {k : Nat} {f C : Addr} {fd : FuncData} {ps : List Str} {sp : Sp} {E : XK} (F : FnG X.prog X.w X.K X.mg X.base k f fd ps sp) (hg : X.A.guards = some []) (hr : Room k X.A) (hb : Binds X.K fd ps []) (hx : Passes CX0 X E)
    (hs : PySem.W.findIn X.K (.ref C) "__eq__" = some (some (.ref f))) (hf : PySem.W.isFn X.K (.ref f) = true) : OpR X (compareOp .Eq) (rOwnI C sp E) := by
  intro pins s σ H x y v u Q I rx ry h
  obtain ⟨a, dx, fs, b, dy, gs, rfl, rfl, ha, hb', q⟩ := h
  cases (show v = Value.ref a from rx)
  cases (show u = Value.ref b from ry)
  obtain ⟨mA, J, _⟩ := ins_get I.hok ha
  obtain ⟨mB, J', _⟩ := ins_get I.hok hb'
  obtain ⟨od, J, _⟩ := J.look
  obtain ⟨od', J', _⟩ := J'.look
  obtain ⟨m, hF⟩ := I.fr
  show wpAny _ _ (richCompare .Eq _ _) _ _ _
  refine PySem.W.cmp_K (op := .Eq) (tb := .ref C) hr.units0 hF I.ok.mod.kin J J'.type (by simp [PySem.W.notFirst]) hs hf ?_
  refine wpAny_mono (runG (us := [.ref a, .ref b]) (vs := [.ref a, .ref b]) F hg hr hb hx I (.cons rfl (.cons rfl .nil)) q) (fun w s' z => ?_) fun _ _ x => x
  obtain ⟨z', H', I', rz, qz⟩ := z
  exact SlX.cmpback rz ⟨z', H', I', rz, qz⟩
end GL
namespace DL
open PySem PySem.Spec PyProof.Rows L2
theorem rd_ownI {α : Type} {K : PySem.W.Frag} {b : Bg} {C : Addr} {EE : XK} {args : α → List D} {pre : Bg → α → Prop} {post : α → D → Prop} {ns ms : List Str} {ds es : List D} {Φ : D → Prop}
    (h : ∃ a, [D.obj C ns ds, D.obj C ms es] = args a ∧ pre b a ∧ ∀ z, post a z → Φ z) : rd2 K b (GL.rOwnI C (Sx K args pre post) EE) (.obj C ns ds) (.obj C ms es) Φ := fun F H v u w d1 d2 Q k => by
  obtain ⟨a, e, h1, h2⟩ := h
  have d1' := d1
  have d2' := d2
  cases d1 with
  | @obj a1 _ dx fs _ s a' =>
    cases d2 with
    | @obj a2 _ dy gs _ s2 a2' =>
      exact ⟨_, _, _, _, _, _, rfl, rfl, w.ex _ _ s, w.ex _ _ s2, b, F, a, w, e ▸ .cons d1' (.one d2'), h1, fun v F' H' x st w' d p => k v F' H' x st w' d (h2 x p)⟩
end DL

namespace GL
open PySem PySem.Spec PyProof.Rows L2
section
variable {X : Cx} {k : Nat} {f C : Addr} {fd : FuncData} {ps : List Str} {sp : Sp} {E : XK}
/-- a call from inside a built-in function -/
theorem runG1 {pins : List (Addr × Obj)} {σ : L2.St} {H : Hp} {s : Shared} {Q : VK} {us : List Value} {vs : List V}
    (G : FnG X.prog X.w X.K X.mg X.base k f fd ps sp) (hg : X.A.guards = some []) (hr : Room (k + 1) X.A)
    (hb : Binds X.K fd ps []) (hx : Passes CX0 X E) (I : Inv X pins σ H s) (r : Vals vs us) (h : sp vs H Q E) :
    wpAny (model X.prog X.w) X.A.in1 (call (.ref f) us) (EP X pins σ Q) X.xe s := by
  have hl : (us ++ []).length = ps.length := by
    rw [List.append_nil, ← r.length]; exact G.ln _ _ _ _ h
  have hbb := hb s us I.kIn hl
  rw [List.append_nil] at hbb
  refine wpAny_call (codeAny_mono (G.go X.A.in1 X.stack s H ⟨us, []⟩ us vs Q E hg hr.in1 I.env0.in1 hbb r h) fun z s' hq => ?_)
  cases z with
  | error e => exact hx pins σ H s e s' I hq
  | ok fl => cases fl with
    | ret u => exact I.after hq
    | next => exact hq.elim
    | brk => exact hq.elim
    | cont => exact hq.elim
/-! len(x), repr(x) of an instance whose class has them itself -/
def rLenI (C : Addr) (sp : Sp) (E : XK) : List V → Hp → VK → Prop := fun xs H Q => ∃ a dx fs, xs = [.ref a] ∧ H a = some (.ins C dx fs) ∧ sp [.ref a] H (fun v H' => ∃ n : Int, v = .int n ∧ (0 ≤ n ∧ n < 2 ^ 63) ∧ Q (.int n) H') E
theorem call_lenI (F : FnG X.prog X.w X.K X.mg X.base k f fd ps sp) (hg : X.A.guards = some []) (hr : Room (k + 1) X.A) (hb : Binds X.K fd ps []) (hx : Passes CX0 X E)
    (hm : Meth X.K C "__len__" f) : CallR X (.builtin "len") (rLenI C sp E) := by
  intro pins s σ H vs us Q I r h
  obtain ⟨a, dx, fs, rfl, ha, q⟩ := h
  rw [Vals.ref1 r]
  obtain ⟨mA, J, _⟩ := ins_get I.hok ha
  obtain ⟨od, J, _⟩ := J.look
  obtain ⟨m, hF⟩ := I.fr
  refine PySem.W.len_K hF I.ok.mod.kin J hm.at_ hm.fn ?_
  refine wpAny_mono (runG1 (us := [.ref a]) (vs := [.ref a]) F hg hr hb hx I (.cons rfl .nil) q) (fun w s' z => ?_) fun _ _ x => x
  obtain ⟨z', H', I', rz, n, rfl, hn, qz⟩ := z
  obtain ⟨t, rfl⟩ := (show ∃ t, w = Value.int n t from rz)
  exact ⟨hn, .int n, H', I'.tok _, ⟨_, rfl⟩, qz⟩
def rReprI (C : Addr) (sp : Sp) (E : XK) : List V → Hp → VK → Prop := fun xs H Q => ∃ a dx fs, xs = [.ref a] ∧ H a = some (.ins C dx fs) ∧ sp [.ref a] H (fun v H' => ∃ z : Str, v = .str z ∧ Q (.str z) H') E
theorem call_reprI (F : FnG X.prog X.w X.K X.mg X.base k f fd ps sp) (hg : X.A.guards = some []) (hr : Room (k + 1) X.A) (hb : Binds X.K fd ps []) (hx : Passes CX0 X E)
    (hm : Meth X.K C "__repr__" f) : CallR X (.builtin "repr") (rReprI C sp E) := by
  intro pins s σ H vs us Q I r h
  obtain ⟨a, dx, fs, rfl, ha, q⟩ := h
  rw [Vals.ref1 r]
  obtain ⟨mA, J, _⟩ := ins_get I.hok ha
  obtain ⟨od, J, _⟩ := J.look
  obtain ⟨m, hF⟩ := I.fr
  refine PySem.W.repr_K (hr.in1.units0) hF I.ok.mod.kin J hm.at_ hm.fn ?_
  refine wpAny_mono (runG1 (us := [.ref a]) (vs := [.ref a]) F hg hr hb hx I (.cons rfl .nil) q) (fun w s' z => ?_) fun _ _ x => x
  obtain ⟨z', H', I', rz, n, rfl, qz⟩ := z
  obtain ⟨t, rfl⟩ := (show ∃ t, w = Value.str n t from rz)
  exact ⟨.str n, H', I', ⟨_, rfl⟩, qz⟩
/-! bits -/
def rOneShl : R2 := fun x y H Q => ∃ k : Nat, x = .int 1 ∧ y = .int (k : Int) ∧ k ≤ 134217727 ∧ Q (.int (2 ^ k)) H
theorem op_oneShlR : OpR X (binaryOp .LShift) rOneShl := op_oneShl
def rShrN : R2 := fun x y H Q => ∃ (i : Int) (k : Nat), x = .int i ∧ y = .int (k : Int) ∧ Q (.int (i / 2 ^ k)) H
theorem op_shrNR : OpR X (binaryOp .RShift) rShrN := op_shrN
def rOdd : R2 := fun x y H Q => ∃ n : Nat, x = .int (n : Int) ∧ y = .int 1 ∧ Q (.int ((n % 2 : Nat) : Int)) H
theorem op_oddR : OpR X (binaryOp .BitAnd) rOdd := op_odd
end
end GL
namespace DL
open PySem PySem.Spec PyProof.Rows L2
section
variable {K : PySem.W.Frag} {b : Bg} {E : Env'} {ta tb te : TE} {t u : TS} {P : Po} {Φ : D → Prop} {C : Addr}
theorem rc_lenI {α : Type} {EE : XK} {args : α → List D} {pre : Bg → α → Prop} {post : α → D → Prop} {ns : List Str} {ds : List D}
    (h : ∃ a, [D.obj C ns ds] = args a ∧ pre b a ∧ ∀ z, post a z → ∃ n : Int, z = .int n ∧ (0 ≤ n ∧ n < 2 ^ 63) ∧ Φ (.int n)) : rdc K b (GL.rLenI C (Sx K args pre post) EE) [.obj C ns ds] Φ := fun F H vs w d Q k => by
  obtain ⟨a, e, h1, h2⟩ := h
  cases d with
  | cons d1 d =>
    cases d
    have d1' := d1
    cases d1 with
    | @obj a1 _ dx fs _ s a' =>
      refine ⟨_, _, _, rfl, w.ex _ _ s, b, F, a, w, e ▸ .one d1', h1, fun v F' H' x st w' d p => ?_⟩
      obtain ⟨n, rfl, hn, q⟩ := h2 x p
      cases d
      exact ⟨n, rfl, hn, k _ F' H' _ st w' (.int n) q⟩
theorem rc_reprI {α : Type} {EE : XK} {args : α → List D} {pre : Bg → α → Prop} {post : α → D → Prop} {ns : List Str} {ds : List D}
    (h : ∃ a, [D.obj C ns ds] = args a ∧ pre b a ∧ ∀ z, post a z → ∃ n : Str, z = .str n ∧ Φ (.str n)) : rdc K b (GL.rReprI C (Sx K args pre post) EE) [.obj C ns ds] Φ := fun F H vs w d Q k => by
  obtain ⟨a, e, h1, h2⟩ := h
  cases d with
  | cons d1 d =>
    cases d
    have d1' := d1
    cases d1 with
    | @obj a1 _ dx fs _ s a' =>
      refine ⟨_, _, _, rfl, w.ex _ _ s, b, F, a, w, e ▸ .one d1', h1, fun v F' H' x st w' d p => ?_⟩
      obtain ⟨n, rfl, q⟩ := h2 x p
      cases d
      exact ⟨n, rfl, k _ F' H' _ st w' (.str n) q⟩
theorem rd_oneShl {k : Nat} (hk : k ≤ 134217727) (q : Φ (.int (2 ^ k))) : rd2 K b GL.rOneShl (.int 1) (.int (k : Int)) Φ := fun F H v u w d1 d2 Q kk => by
  cases d1; cases d2
  exact ⟨k, rfl, rfl, hk, kk _ F H _ .refl w (.int _) q⟩
theorem rd_shrN {i : Int} {k : Nat} (q : Φ (.int (i / 2 ^ k))) : rd2 K b GL.rShrN (.int i) (.int (k : Int)) Φ := fun F H v u w d1 d2 Q kk => by
  cases d1; cases d2
  exact ⟨i, k, rfl, rfl, kk _ F H _ .refl w (.int _) q⟩
theorem rd_odd {n : Nat} (q : Φ (.int ((n % 2 : Nat) : Int))) : rd2 K b GL.rOdd (.int (n : Int)) (.int 1) Φ := fun F H v u w d1 d2 Q kk => by
  cases d1; cases d2
  exact ⟨n, rfl, rfl, kk _ F H _ .refl w (.int _) q⟩
/-! is None -/
def isNo : D → Bool
  | .non => true
  | _ => false
theorem non_iff {F : Hp} {v : V} {d : D} (h : Dv K b F v d) : decide (v = .non) = isNo d := by
  cases h <;> first | rfl | exact decide_eq_false (fun z => nomatch z)
theorem rd_isN {d : D} (q : Φ (.bl (isNo d))) : rd2 K b rIsN d .non Φ := fun F H v u w d1 d2 Q kk => by
  cases d2
  have e := non_iff d1
  exact ⟨rfl, kk _ F H _ .refl w (by rw [e]; exact .bl _) q⟩
theorem rd_notN {d : D} (q : Φ (.bl (!isNo d))) : rd2 K b rNotN d .non Φ := fun F H v u w d1 d2 Q kk => by
  cases d2
  have e := non_iff d1
  exact ⟨rfl, kk _ F H _ .refl w (by rw [e]; exact .bl _) q⟩
/-! a number as a test -/
def tTruI (K : PySem.W.Frag) (te : TE) : TT := fun σ H Q => te σ H fun x H' => ∃ k, TruV K x H' k ∧ Q k H'
theorem wpt_truI {Φ : Bool → Prop} (h : wpe K b te E fun x => ∃ i : Int, x = .int i ∧ Φ (i != 0)) : wpt K b (tTruI K te) E Φ := fun H0 F H σ w e Q k =>
  h H0 F H σ w e _ fun v F1 H1 x s1 w1 d1 p1 => by
    obtain ⟨i, rfl, q⟩ := p1
    cases d1
    exact ⟨_, rfl, k _ F1 H1 s1 w1 q⟩
theorem pt_truI {X : Cx} {a : Expr} {ta : TE} (ha : PE X a ta) (he : ∀ whole, isTrue a X.env whole = (do let v ← whole; standAt a.pos; holding [v] (truthy v))) (h : X.K = K := by rfl) : PT X a (tTruI K ta) := h ▸ pt_truth ha he
/-! isinstance of an own class -/
structure InsC (K : PySem.W.Frag) (C : Addr) : Prop where
  cl : Cls K C
  ha : PySem.W.findIn K (.ref C) "__class__" = some (some (.builtin "object.__class__"))
  hn : PySem.W.specialIn K (.builtin "object.__class__") "__get__" = some (some (.builtin "getset_descriptor.__get__"))
  htk : PySem.W.takesIn K (.builtin "object.__class__") = some true
  hm : PySem.W.mroIn K C (.type "object") = some true
theorem wpe_isiC (c : InsC K C) (h : wpe K b ta E fun x => ∃ ns ds, x = .obj C ns ds ∧ Φ (.bl true)) : wpe K b (tCB (rIsi K) (tCons ta (tCons (tC (.ref C)) tNil))) E Φ := fun H0 F H σ w e Q k =>
  h H0 F H σ w e _ fun v F1 H1 x s1 w1 d1 p1 => by
    obtain ⟨ns, ds, rfl, q⟩ := p1
    cases d1 with
    | @obj a _ dx fs _ s a' =>
      refine ⟨_, .ref C, .ref C, .ref C, true, rfl, .own C, .base (.ins (w1.ex _ _ s) c.cl c.ha c.hn c.htk c.hm), ?_, k _ F1 H1 _ s1 w1 (.bl true) q⟩
      unfold PySem.W.kitOne
      rw [if_pos (by simp)]
end
end DL

namespace DL
open PySem PySem.Spec PyProof.Rows L2
section
variable {K : PySem.W.Frag} {b : Bg} {E : Env'} {ta tb te : TE} {t u : TS} {P : Po} {F H F' H' : Hp}
/-! what is one's own is lent out as data -/
theorem lendS {S : Addr → Prop} {H0 : Hp} {σ : L2.St} {i : Nat} {v : V} {d : D} (w : Wd K b F H) (e : EnvD K b H0 F H σ E) (ho : ∀ (j : Nat) (ds : List D), E[j]? ≠ some (.o ds))
    (inF : ∀ a, S a → F a = none) (nb : ∀ a, S a → ∀ c, b ≠ some (a, c)) (hs : σ[i]? = some (some v)) (hd : ∀ G : Hp, Ex F G → (∀ a, S a → G a = H a) → Dv K b G v d) :
    ∃ G, Wd K b G H ∧ EnvD K b H0 G H σ (E.set i (.d d)) ∧ ∀ G' H', Step b G H G' H' → Wd K b G' H' → ∃ F', Step b F H F' H' ∧ Wd K b F' H' := by
  classical
  let G : Hp := fun a => if S a then H a else F a
  have gF : ∀ a o, F a = some o → G a = some o := fun a o h => by
    show (if S a then H a else F a) = _
    rw [if_neg (fun z => by rw [inF a z] at h; cases h)]; exact h
  have gH : ∀ a o, G a = some o → H a = some o := fun a o h => by
    have h' : (if S a then H a else F a) = some o := h
    by_cases z : S a
    · rw [if_pos z] at h'; exact h'
    · rw [if_neg z] at h'; exact w.ex a o h'
  have gIn : ∀ a, S a → G a = H a := fun a z => by
    show (if S a then H a else F a) = _
    rw [if_pos z]
  have gOut : ∀ a, ¬ S a → G a = F a := fun a z => by
    show (if S a then H a else F a) = _
    rw [if_neg z]
  have wG : Wd K b G H := ⟨gH, fun a c hb => by
    have B := w.bag a c hb
    obtain ⟨ns, s1, s2⟩ := B.cell
    exact ⟨by rw [gOut a (fun z => nb a z c hb)]; exact B.out, B.bag, ⟨ns, exL gF s1, s2⟩⟩⟩
  refine ⟨G, wG, ?_, fun G' H' s w' => ⟨fun a => if S a then none else G' a, ⟨fun a o q => ?_, s.keep, fun a e1 e2 => ?_⟩, fun a o q => ?_, fun a c hb => ?_⟩⟩
  · have e' : EnvD K b H0 G H σ E := ⟨e.len, fun j x h => let ⟨v, h1, h2⟩ := e.dat j x h; ⟨v, h1, h2.up gF⟩, fun j ds h => absurd h (ho j ds), fun j k ds es r h => absurd h (ho j ds)⟩
    have e2 := e'.setD (i := i) (hd G gF gIn)
    have es : σ.set i (some v) = σ := by
      refine List.ext_getElem? fun j => ?_
      by_cases hj : i = j
      · subst hj
        rw [List.getElem?_set_self (List.getElem?_eq_some_iff.mp hs).1, hs]
      · rw [List.getElem?_set_ne hj]
    rw [es] at e2
    exact e2
  · show (if S a then none else G' a) = some o
    rw [if_neg (fun z => by rw [inF a z] at q; cases q)]
    exact s.ex a o (gF a o q)
  · show (if S a then none else G' a) = none
    by_cases z : S a
    · rw [if_pos z]
    · rw [if_neg z]; exact s.out a (by rw [gOut a z]; exact e1) e2
  · have q' : (if S a then none else G' a) = some o := q
    by_cases z : S a
    · rw [if_pos z] at q'; cases q'
    · rw [if_neg z] at q'; exact w'.ex a o q'
  · have B := w'.bag a c hb
    have A := w.bag a c hb
    obtain ⟨ns, s1, s2⟩ := A.cell
    refine ⟨?_, B.bag, ⟨ns, exL (fun a o q => ?_) s1, s2⟩⟩
    · show (if S a then none else G' a) = none
      rw [if_neg (fun z => nb a z c hb)]; exact B.out
    · show (if S a then none else G' a) = some o
      rw [if_neg (fun z => by rw [inF a z] at q; cases q)]
      exact s.ex a o (gF a o q)
/-! None, or a new tuple of a number and a new list of numbers -/
abbrev Op := Option (Int × List Int)
def optD : Op → D
  | none => .non
  | some (c, ns) => .tup [.int c, .lst (ns.map D.int)]
def OtOk (b : Bg) (F H G : Hp) (v : V) : Op → Prop
  | none => v = .non
  | some (c, ns) => ∃ t q, v = .ref t ∧ (F t = none ∧ G t = none ∧ (∀ c, b ≠ some (t, c)) ∧ H t = some (.tup [.int c, .ref q])) ∧ F q = none ∧ G q = none ∧ (∀ c, b ≠ some (q, c)) ∧ H q = some (.lst (ns.map V.int))
theorem OtOk.step {G : Hp} {v : V} : ∀ {o : Op}, OtOk b F H G v o → Step b F H F' H' → OtOk b F' H' G v o
  | none, h, _ => h
  | some (c, ns), ⟨t, q, e, ⟨a1, a2, a3, a4⟩, b1, b2, b3, b4⟩, s => ⟨t, q, e, ⟨s.out t a1 (by rw [a4]; exact fun z => nomatch z), a2, a3, s.keep t _ a3 a4⟩, s.out q b1 (by rw [b4]; exact fun z => nomatch z), b2, b3, s.keep q _ b3 b4⟩
theorem OtOk.old {G G' : Hp} {v : V} (h : ∀ a, G a = none → G' a = none) : ∀ {o : Op}, OtOk b F H G v o → OtOk b F H G' v o
  | none, z => z
  | some (c, ns), ⟨t, q, e, ⟨a1, a2, a3, a4⟩, b1, b2, b3, b4⟩ => ⟨t, q, e, ⟨a1, h t a2, a3, a4⟩, b1, h q b2, b3, b4⟩
/-- .. in such a thing -/
def wpq (K : PySem.W.Frag) (b : Bg) (t : TE) (E : Env') (Φ : Op → Prop) : Prop := ∀ H0 F H σ, Wd K b F H → EnvD K b H0 F H σ E →
  ∀ Q : VK, (∀ v F' H' o, Step b F H F' H' → Wd K b F' H' → OtOk b F' H' H v o → Φ o → Q v H') → t σ H Q
/-- a promise: such a thing out -/
def So {α : Type} (K : PySem.W.Frag) (args : α → List D) (pre : Bg → α → Prop) (post : α → Op → Prop) : Sp := fun vs H Q _ => ∃ b F a, Wd K b F H ∧ DvA K b F vs (args a) ∧ pre b a ∧
  ∀ v F' H' o, Step b F H F' H' → Wd K b F' H' → OtOk b F' H' H v o → post a o → Q v H'
theorem wpq_call {α : Type} {args : α → List D} {pre : Bg → α → Prop} {post : α → Op → Prop} {EE : XK} {tr : TA} {Φ : Op → Prop} (h : wpa K b tr E fun xs => ∃ a, xs = args a ∧ pre b a ∧ ∀ x, post a x → Φ x) : wpq K b (tCall (So K args pre post) [] EE tr) E Φ := fun H0 F H σ w e Q k =>
  h H0 F H σ w e _ fun vs F1 H1 xs s1 w1 d1 p1 => by
    obtain ⟨a, rfl, h1, h2⟩ := p1
    rw [List.append_nil]
    exact ⟨b, F1, a, w1, d1, h1, fun v F' H' o s w' N q => k v F' H' o (s1.trans s w1) w' (N.old fun a z => s1.fresh w1 z) (h2 o q)⟩
theorem ln_o {α : Type} {args : α → List D} {pre : Bg → α → Prop} {post : α → Op → Prop} {n : Nat} {vs : List V} {H : Hp} {Q : VK} {EE : XK} (h : So K args pre post vs H Q EE) (hn : ∀ a, (args a).length = n) : vs.length = n := by
  obtain ⟨_, _, a, _, h, _⟩ := h
  exact h.len.trans (hn a)
/-- .. becomes data -/
theorem wpe_o {Φ : D → Prop} (h : wpq K b te E fun o => Φ (optD o)) : wpe K b te E Φ := fun H0 F H σ w e Q k =>
  h H0 F H σ w e _ fun v F1 H1 o s1 w1 N q => by
    match o, N with
    | none, N =>
      cases (show v = .non from N)
      exact k .non F1 H1 .non s1 w1 .non q
    | some (c, ns), N =>
      obtain ⟨t, q', rfl, ⟨a1, a2, a3, a4⟩, b1, b2, b3, b4⟩ := N
      have htq : t ≠ q' := fun z => by rw [z, b4] at a4; cases a4
      have w2 := w1.frz a1 a4 a3
      have w3 := w2.frz (p := q') (by rw [upd_ne (fun z => htq z.symm)]; exact b1) b4 b3
      refine k (.ref t) _ H1 (optD (some (c, ns))) ?_ w3 ?_ q
      · refine ⟨s1.ex.trans ((Ex.new a1).trans (Ex.new (by rw [upd_ne (fun z => htq z.symm)]; exact b1))), s1.keep, fun a h1 h2 => ?_⟩
        have n1 : a ≠ q' := fun z => h2 (by rw [z]; exact b2)
        have n2 : a ≠ t := fun z => h2 (by rw [z]; exact a2)
        rw [upd_ne n1, upd_ne n2]
        exact s1.out a h1 h2
      · exact .tup (.inl (.inl (by rw [upd_ne htq]; exact upd_same))) (.cons (.int c) (.one (.lst upd_same (DvA.of_ints ns))))
/-! statements while slot i holds such a thing -/
def wpsO (K : PySem.W.Frag) (b : Bg) (i : Nat) (o : Op) (t : TS) (E : Env') (P : Po) : Prop := ∀ F0 H0 F H σ v, Step b F0 H0 F H → Wd K b F H → EnvD K b H0 F H σ E → σ[i]? = some (some v) → OtOk b F H H0 v o →
  ∀ Dn : Ends, Ok K b F0 H0 F P Dn → t Dn σ H
theorem wpsO_asg {i : Nat} (h : wpq K b te E fun o => wpsO K b i o u (E.set i .u) P) (hi : i < E.length) : wps K b (tSeq (tAsg te (gName i)) u) E P := fun F0 H0 F H σ s w e Dn k =>
  h H0 F H σ w e _ fun v F' H' o s' w' N q => by
    have e2 : EnvD K b H0 F' H' (σ.set i (some v)) (E.set i .u) := by
      refine ⟨by rw [List.length_set, List.length_set]; exact e.len, fun j x h => ?_, fun j ds h => ?_, fun j k ds es r h1 h2 h3 h4 => ?_⟩
      · rcases set_get h with ⟨_, z⟩ | ⟨z, h⟩
        · cases z
        · obtain ⟨v, a1, a2⟩ := (e.step s').dat j x h
          exact ⟨v, by rw [List.getElem?_set_ne z]; exact a1, a2⟩
      · rcases set_get h with ⟨_, z⟩ | ⟨z, h⟩
        · cases z
        · obtain ⟨r, us, a1, a2⟩ := (e.step s').own j ds h
          exact ⟨r, us, by rw [List.getElem?_set_ne z]; exact a1, a2⟩
      · rcases set_get h1 with ⟨_, z⟩ | ⟨z1, h1⟩
        · cases z
        · rcases set_get h2 with ⟨_, z⟩ | ⟨z2, h2⟩
          · cases z
          · rw [List.getElem?_set_ne z1] at h3
            rw [List.getElem?_set_ne z2] at h4
            exact e.inj j k ds es r h1 h2 h3 h4
    exact q F0 H0 F' H' _ v (s.trans s' w) w' e2 (List.getElem?_set_self (by rw [e.len]; exact hi)) (N.old fun a z => s.fresh w z) Dn (k.up s'.ex)
theorem lendO {H0 : Hp} {σ : L2.St} {i : Nat} {v : V} {G0 : Hp} : ∀ {o : Op}, OtOk b F H G0 v o → Wd K b F H → EnvD K b H0 F H σ E → (∀ (j : Nat) (ds : List D), E[j]? ≠ some (.o ds)) → σ[i]? = some (some v) →
    ∃ G, Wd K b G H ∧ EnvD K b H0 G H σ (E.set i (.d (optD o))) ∧ ∀ G' H', Step b G H G' H' → Wd K b G' H' → ∃ F', Step b F H F' H' ∧ Wd K b F' H'
  | none, N, w, e, ho, hs => by
    cases (show v = .non from N)
    exact lendS (S := fun _ => False) w e ho (fun _ z => z.elim) (fun _ z => z.elim) hs fun G _ _ => .non
  | some (c, ns), N, w, e, ho, hs => by
    obtain ⟨t, q', rfl, ⟨a1, a2, a3, a4⟩, b1, b2, b3, b4⟩ := N
    refine lendS (S := fun a => a = t ∨ a = q') w e ho (fun a z => ?_) (fun a z => ?_) hs fun G x y => ?_
    · rcases z with rfl | rfl
      · exact a1
      · exact b1
    · rcases z with rfl | rfl
      · exact a3
      · exact b3
    · exact .tup (.inl (.inl (by rw [y t (.inl rfl)]; exact a4))) (.cons (.int c) (.one (.lst (by rw [y q' (.inr rfl)]; exact b4) (DvA.of_ints ns))))
theorem wpsO_if {i : Nat} {o : Op} {c : TT} {t1 : TS} (ho : ∀ (j : Nat) (ds : List D), E[j]? ≠ some (.o ds)) (h : wpt K b c (E.set i (.d (optD o))) fun r => r = false ∧ wpsO K b i o u E P) : wpsO K b i o (tSeq (tIfS c t1 tNext) u) E P := fun F0 H0 F H σ v s w e hs N Dn k => by
  obtain ⟨G, w1, e1, back⟩ := lendO N w e ho hs
  refine h H0 G H σ w1 e1 _ fun r G' H' s' w' q => ?_
  obtain ⟨rfl, q⟩ := q
  obtain ⟨F', s2, w2⟩ := back G' H' s' w'
  refine (if_neg Bool.false_ne_true : (if false = true then _ else _) = _).symm ▸ ?_
  exact q F0 H0 F' H' σ v (s.trans s2 w) w2 (e.step s2) hs (N.step s2) Dn (k.up s2.ex)
/-- if x is not None: x[1].append(n), and on -/
theorem wpsO_app {i : Nat} {n : Int} {o : Op} (ho : ∀ (j : Nat) (ds : List D), E[j]? ≠ some (.o ds)) (hl : ∀ c ns, o = some (c, ns) → ns.length < 100000) (h : wps K b u E P) :
    wpsO K b i o (tSeq (tIfS (tTest (tOp rNotN (tVar i) (tC .non))) (tDrop (tBM K "list" rAppend (tOp (rIx K) (tVar i) (tC (.int 1))) (tCons (tC (.int n)) tNil))) tNext) u) E P := fun F0 H0 F H σ v s w e hs N Dn k => by
  match o, N, hl with
  | none, N, hl =>
    cases (show v = .non from N)
    refine ⟨.non, hs, rfl, _, rfl, ?_⟩
    exact h F0 H0 F H σ s w e Dn k
  | some (c, ns), N, hl =>
    obtain ⟨t, q, rfl, ⟨a1, a2, a3, a4⟩, b1, b2, b3, b4⟩ := N
    have htq : t ≠ q := fun z => by rw [z, b4] at a4; cases a4
    refine ⟨.ref t, hs, rfl, _, rfl, ?_⟩
    show (if (!decide (V.ref t = V.non)) = true then _ else _)
    rw [if_pos (by simp)]
    refine ⟨.ref t, hs, .inr (.inl ⟨t, [.int c, .ref q], 1, .ref q, rfl, rfl, .inl (.inl a4), rfl, .inl ⟨rfl, _, SqL.of b4⟩, q, ns.map V.int, .int n, rfl, rfl, b4, ?_, ?_⟩)⟩
    · rw [List.length_map]
      exact Nat.lt_of_lt_of_le (hl c ns rfl) (by decide)
    · have e2 : EnvD K b H0 F (upd H q (.lst (ns.map V.int ++ [.int n]))) σ E := ⟨e.len, e.dat, fun j ds z => absurd z (ho j ds), fun j k ds es r z => absurd z (ho j ds)⟩
      exact h F0 H0 F _ σ (s.turn b2) (w.turn b1 b3) e2 Dn k
/-- if x is not None: x[1].clear(), at the end -/
theorem wpsO_clr {i : Nat} {o : Op} (ho : ∀ (j : Nat) (ds : List D), E[j]? ≠ some (.o ds)) (h : P.nx E) :
    wpsO K b i o (tIfS (tTest (tOp rNotN (tVar i) (tC .non))) (tDrop (tBM0 K "list" rClear (tOp (rIx K) (tVar i) (tC (.int 1))))) tNext) E P := fun F0 H0 F H σ v s w e hs N Dn k => by
  match o, N with
  | none, N =>
    cases (show v = .non from N)
    refine ⟨.non, hs, rfl, _, rfl, ?_⟩
    exact k.nx σ F H E (Ex.refl _) s w e h
  | some (c, ns), N =>
    obtain ⟨t, q, rfl, ⟨a1, a2, a3, a4⟩, b1, b2, b3, b4⟩ := N
    refine ⟨.ref t, hs, rfl, _, rfl, ?_⟩
    show (if (!decide (V.ref t = V.non)) = true then _ else _)
    rw [if_pos (by simp)]
    refine ⟨.ref t, hs, .inr (.inl ⟨t, [.int c, .ref q], 1, .ref q, rfl, rfl, .inl (.inl a4), rfl, .inl ⟨rfl, _, SqL.of b4⟩, q, ns.map V.int, rfl, rfl, b4, ?_⟩)⟩
    exact k.nx σ F _ E (Ex.refl _) (s.turn b2) (w.turn b1 b3) ⟨e.len, e.dat, fun j ds z => absurd z (ho j ds), fun j k ds es r z => absurd z (ho j ds)⟩ h
/-! sorted of a new list of new lists -/
def sortL (dss : List (List D)) : List (List D) := dss.mergeSort fun x y => leD (.lst x) (.lst y)
theorem wpn_sorted {Φ : List (List D) → Prop} (n : Nat) (hn : n ≤ 60) (h : wpn K b te E fun dss => D.okA n (dss.map D.lst) = true ∧ PySem.W.AllAlike ((dss.map D.lst).map D.py) ∧ PySem.W.Sortable ((dss.map D.lst).map D.py) ∧ Φ (sortL dss)) :
    wpn K b (tCB (rSrt K) (tCons te tNil)) E Φ := fun H0 F H σ w e Q k =>
  h H0 F H σ w e _ fun p qs F' H' dss s w' n1 n2 N q => by
    obtain ⟨h1, h2, h3, q⟩ := q
    obtain ⟨_, a2, _⟩ := okA_lay n _ h1
    classical
    let G : Hp := fun a => if a ∈ qs then H' a else F' a
    have inF : ∀ a, a ∈ qs → F' a = none := fun a z => by obtain ⟨_, _, _, _, h, _⟩ := N.mem z; exact h
    have gF : Ex F' G := fun a o h => by
      show (if a ∈ qs then H' a else F' a) = _
      rw [if_neg (fun z => by rw [inF a z] at h; cases h)]; exact h
    have gH : Ex G H' := fun a o h => by
      have h' : (if a ∈ qs then H' a else F' a) = some o := h
      by_cases z : a ∈ qs
      · rw [if_pos z] at h'; exact h'
      · rw [if_neg z] at h'; exact w'.ex a o h'
    have dA : DvA K b G (qs.map V.ref) (dss.map D.lst) := dva_refs N.len fun j q ds e1 e2 => by
      obtain ⟨_, _, vs, a3, a4⟩ := N.it j q ds e1 e2
      refine ⟨vs, ?_, a4.up gF⟩
      show (if q ∈ qs then H' q else F' q) = _
      rw [if_pos (List.mem_of_getElem? e1)]; exact a3
    refine ⟨p, qs.map V.ref, D.pyA (dss.map D.lst), rfl, SqL.of N.hp, dpUpA gH _ _ (DvA.dp n _ _ h1 dA), by rw [pyA_map]; exact h2, by rw [pyA_map]; exact h3, fun z hz => ?_, fun p2 hp2 => ?_⟩
    · rw [pyA_map] at hz
      obtain ⟨y, hy, rfl⟩ := List.mem_map.mp hz
      exact Nat.le_trans (ok_lay n y (okA_mem h1 y hy)).2.1 hn
    · let zs := (qs.zip dss).mergeSort (PySem.W.dataLe false fun p : Addr × List D => (D.lst p.2).py)
      have e1 : (((qs.map V.ref).zip (D.pyA (dss.map D.lst))).mergeSort (PySem.W.dataLe false Prod.snd)).map Prod.fst = (zs.map Prod.fst).map V.ref := by
        have hm : (qs.zip dss).map (fun p => (V.ref p.1, (D.lst p.2).py)) = (qs.map V.ref).zip (D.pyA (dss.map D.lst)) := by rw [pyA_map, List.map_map, List.zip_map]; rfl
        have hs := PySem.W.sort_maps (r := PySem.W.dataLe false fun p : Addr × List D => (D.lst p.2).py) (s := PySem.W.dataLe false (Prod.snd : V × PyData → PyData)) (fun p : Addr × List D => (V.ref p.1, (D.lst p.2).py)) (l := qs.zip dss) (fun _ _ _ _ => rfl)
        rw [← hm, ← hs, List.map_map, List.map_map]
        rfl
      have e2 : zs.map Prod.snd = sortL dss := by
        have hs := PySem.W.sort_maps (r := PySem.W.dataLe false fun p : Addr × List D => (D.lst p.2).py) (s := fun x y => leD (.lst x) (.lst y)) (Prod.snd : Addr × List D → List D) (l := qs.zip dss) (fun _ _ _ _ => rfl)
        rw [hs, List.map_snd_zip]
        · rfl
        · exact Nat.le_of_eq N.len.symm
      have pm : zs.Perm (qs.zip dss) := List.mergeSort_perm _ _
      have e3 : (zs.map Prod.fst).Perm qs := by
        have := pm.map Prod.fst
        rwa [List.map_fst_zip (Nat.le_of_eq N.len)] at this
      obtain ⟨w2, s2⟩ := w'.newO (o := .lst ((zs.map Prod.fst).map V.ref)) hp2
      rw [e1]
      have p2q : p2 ∉ qs := fun z => by
        obtain ⟨_, _, _, _, _, _, vs', h5', _⟩ := N.mem z
        rw [hp2] at h5'; cases h5'
      refine k p2 (zs.map Prod.fst) F' _ (sortL dss) (s.trans s2 w') w2 (s.fresh w' hp2) (fun q hq => n2 q (e3.mem_iff.mp hq)) ⟨w'.outN hp2, w'.nb hp2, upd_same, e3.nodup_iff.mpr N.nd, fun z => p2q (e3.mem_iff.mp z), by rw [← e2, List.length_map, List.length_map], fun j q ds z1 z2 => ?_⟩ q
      rw [← e2, List.getElem?_map] at z2
      rw [List.getElem?_map] at z1
      obtain ⟨z, hz, rfl⟩ := Option.map_eq_some_iff.mp z1
      rw [hz] at z2
      cases z2
      have hm := pm.mem_iff.mp (List.mem_of_getElem? hz)
      obtain ⟨j0, hj0⟩ := List.mem_iff_getElem?.mp hm
      obtain ⟨y1, y2⟩ := (List.getElem?_zip_eq_some).mp hj0
      obtain ⟨a1, a2', vs, a3, a4⟩ := N.it j0 _ _ y1 y2
      refine ⟨a1, a2', vs, ?_, a4⟩
      rw [upd_ne (fun zz => p2q (by rw [← zz]; exact List.mem_of_getElem? y1))]
      exact a3
end
end DL

namespace DL
open PySem PySem.Spec PyProof.Rows L2
/-! bounds and the weight of those that miss them -/
def wm (zs : List (List Int × Int)) (q : Bnd) : Int := ((zs.filter fun p => !mb p.1 q).map (·.2)).sum
theorem wm_cons (p : List Int × Int) (zs : List (List Int × Int)) (q : Bnd) : wm (p :: zs) q = (if mb p.1 q = true then 0 else p.2) + wm zs q := by
  unfold wm
  cases h : mb p.1 q with
  | true => rw [List.filter_cons_of_neg (by simp [h]), if_pos rfl, Int.zero_add]
  | false => rw [List.filter_cons_of_pos (by simp [h]), if_neg Bool.false_ne_true]; rfl
theorem wm_least (zs : List (List Int × Int)) (c v : Int) : wm zs (c, false, v) = wz (zs.map fun p => (rget p.1 c, p.2)) (v - 1) := by
  induction zs with
  | nil => rfl
  | cons p zs ih =>
    rw [wm_cons, List.map_cons, wz_cons, ih]
    have e : mb p.1 (c, false, v) = decide (v ≤ rget p.1 c) := rfl
    rw [e]
    by_cases h : v ≤ rget p.1 c
    · rw [decide_eq_true h, if_pos rfl, if_neg (by show ¬ rget p.1 c ≤ v - 1; omega)]
    · rw [decide_eq_false h, if_neg Bool.false_ne_true, if_pos (by show rget p.1 c ≤ v - 1; omega)]
theorem wm_most (zs : List (List Int × Int)) (c v : Int) : wm zs (c, true, v) = (zs.map (·.2)).sum - wz (zs.map fun p => (rget p.1 c, p.2)) v := by
  induction zs with
  | nil => rfl
  | cons p zs ih =>
    rw [wm_cons, List.map_cons, List.map_cons, List.sum_cons, wz_cons, ih]
    have e : mb p.1 (c, true, v) = decide (rget p.1 c ≤ v) := rfl
    rw [e]
    by_cases h : rget p.1 c ≤ v
    · rw [decide_eq_true h, if_pos rfl, if_pos (by exact h)]; omega
    · rw [decide_eq_false h, if_neg Bool.false_ne_true, if_neg (by exact h)]; omega
theorem wm_bounds {zs : List (List Int × Int)} {q : Bnd} (h : ∀ p ∈ zs, 0 ≤ p.2) : 0 ≤ wm zs q ∧ wm zs q ≤ (zs.map (·.2)).sum := by
  induction zs with
  | nil => exact ⟨Int.le_refl _, Int.le_refl _⟩
  | cons p zs ih =>
    have h1 := ih fun q hq => h q (List.mem_cons_of_mem _ hq)
    have h2 := h p List.mem_cons_self
    rw [wm_cons, List.map_cons, List.sum_cons]
    split <;> omega
theorem max_ex : ∀ {l : List Int}, l ≠ [] → ∃ e ∈ l, ∀ y ∈ l, y ≤ e
  | [], h => absurd rfl h
  | [x], _ => ⟨x, List.mem_cons_self, fun y hy => by rw [List.mem_singleton.mp hy]; exact Int.le_refl _⟩
  | x :: y :: l, _ => by
    obtain ⟨e, he, hm⟩ := max_ex (l := y :: l) (by simp)
    by_cases h : x ≤ e
    · exact ⟨e, List.mem_cons_of_mem _ he, fun z hz => by rcases List.mem_cons.mp hz with rfl | hz; exact h; exact hm z hz⟩
    · exact ⟨x, List.mem_cons_self, fun z hz => by rcases List.mem_cons.mp hz with rfl | hz; exact Int.le_refl _; have := hm z hz; omega⟩
theorem wz_mono {zs : List (Int × Int)} {x y : Int} (hw : ∀ p ∈ zs, 0 ≤ p.2) (h : x ≤ y) : wz zs x ≤ wz zs y := by
  induction zs with
  | nil => exact Int.le_refl _
  | cons p zs ih =>
    have h1 := ih fun q hq => hw q (List.mem_cons_of_mem _ hq)
    have h2 := hw p List.mem_cons_self
    rw [wz_cons, wz_cons]
    split <;> split <;> omega
/-- the least entry, by any number -/
theorem isLeast_le {es ws : List Int} {q m : Int} (hw : ∀ w ∈ ws, 0 ≤ w) (h0 : 1 ≤ q) (h : isLeast es ws q m) (x : Int) : q ≤ wz (es.zip ws) x ↔ m ≤ x := by
  have nn : ∀ p ∈ es.zip ws, 0 ≤ p.2 := fun p hp => hw _ (List.of_mem_zip hp).2
  refine ⟨fun hq => ?_, fun hx => ?_⟩
  · by_cases he : (es.zip ws).filter (fun p => decide (p.1 ≤ x)) = []
    · have : wz (es.zip ws) x = 0 := by unfold wz; rw [he]; rfl
      omega
    · have hne : ((es.zip ws).filter (fun p => decide (p.1 ≤ x))).map (·.1) ≠ [] := fun z => he (List.map_eq_nil_iff.mp z)
      obtain ⟨e, hm, hmax⟩ := max_ex hne
      obtain ⟨p, hp, rfl⟩ := List.mem_map.mp hm
      obtain ⟨hp1, hp2⟩ := List.mem_filter.mp hp
      have hpx : p.1 ≤ x := of_decide_eq_true hp2
      have e1 : wz (es.zip ws) x = wz (es.zip ws) p.1 := by
        unfold wz
        congr 2
        refine List.filter_congr fun r hr => ?_
        by_cases hrx : r.1 ≤ x
        · have : r.1 ≤ p.1 := hmax r.1 (List.mem_map.mpr ⟨r, List.mem_filter.mpr ⟨hr, decide_eq_true hrx⟩, rfl⟩)
          rw [decide_eq_true hrx, decide_eq_true this]
        · rw [decide_eq_false hrx, decide_eq_false (by omega)]
      have := h.2.2 p.1 (List.of_mem_zip hp1).1 (by rw [← e1]; exact hq)
      omega
  · have := wz_mono nn hx
    have := h.2.1
    omega
/-- what may be missing -/
def allow (ws qs : List Int) (c : Int) (m : Bool) : Int := if m then ws.sum - rget qs c else rget qs c - 1
theorem decides {ws qs : List Int} {rs : List (List Int)} {r : List Int} {q : Bnd} (h : okQ ws qs) (hr : okR ws.length qs.length rs) (hm : isMade ws qs rs r) (hq : inW qs.length q) : mb r q = decide (wm (rs.zip ws) q ≤ allow ws qs q.1 q.2.1) := by
  obtain ⟨c, way, v⟩ := q
  obtain ⟨c0, c1⟩ := hq
  have c0' : 0 ≤ c := c0
  have c1' : c < qs.length := c1
  obtain ⟨n, rfl⟩ : ∃ n : Nat, c = (n : Int) := ⟨c.toNat, by omega⟩
  have hn : n < qs.length := by omega
  have hnr : n < r.length := by rw [hm.1]; exact hn
  have eq1 : rget qs (n : Int) = qs[n] := by unfold rget; rw [Int.toNat_natCast, List.getD, List.getElem?_eq_getElem hn]; rfl
  have er1 : rget r (n : Int) = r[n] := by unfold rget; rw [Int.toNat_natCast, List.getD, List.getElem?_eq_getElem hnr]; rfl
  have hl := hm.2 n _ _ (List.getElem?_eq_getElem hn) (List.getElem?_eq_getElem hnr)
  rw [← eq1, ← er1] at hl
  have hq1 : 1 ≤ rget qs (n : Int) := by rw [eq1]; exact (h.2.2.2 _ (List.getElem_mem _)).1
  have hw : ∀ w ∈ ws, 0 ≤ w := fun w hw => by have := (h.2.2.1 w hw).1; omega
  have ez : (rs.zip ws).map (fun p => (rget p.1 (n : Int), p.2)) = (rs.map fun r => rget r (n : Int)).zip ws := by rw [List.zip_map_left]; rfl
  have es : ((rs.zip ws).map (·.2)).sum = ws.sum := by
    have : (rs.zip ws).map (·.2) = ws := List.map_snd_zip (by rw [hr.1]; exact Nat.le_refl _)
    rw [this]
  have key := fun x => isLeast_le hw hq1 hl x
  cases way with
  | false =>
    rw [wm_least, ez]
    show decide (v ≤ rget r (n : Int)) = decide (_ ≤ rget qs (n : Int) - 1)
    have := key (v - 1)
    by_cases hv : v ≤ rget r (n : Int)
    · rw [decide_eq_true hv, decide_eq_true]
      have : ¬ rget qs (n : Int) ≤ wz ((rs.map fun r => rget r (n : Int)).zip ws) (v - 1) := fun z => by have := this.mp z; omega
      omega
    · rw [decide_eq_false hv, decide_eq_false]
      have := this.mpr (by omega)
      omega
  | true =>
    rw [wm_most, ez, es]
    show decide (rget r (n : Int) ≤ v) = decide (_ ≤ ws.sum - rget qs (n : Int))
    have := key v
    by_cases hv : rget r (n : Int) ≤ v
    · rw [decide_eq_true hv, decide_eq_true]
      have := this.mpr hv
      omega
    · rw [decide_eq_false hv, decide_eq_false]
      have : ¬ rget qs (n : Int) ≤ wz ((rs.map fun r => rget r (n : Int)).zip ws) v := fun z => hv (this.mp z)
      omega
def inWs (n : Nat) (ws : List Bnd) : Prop := ws.length ≤ 20 ∧ ∀ q ∈ ws, inW n q
abbrev sp_meets_bound (K : PySem.W.Frag) (_ : Addr) : Sp := Sx K (fun a : List Int × Bnd => [encR a.1, encB a.2]) (fun _ a => inW a.1.length a.2) fun a x => x = .bl (mb a.1 a.2)
abbrev sp_meets (K : PySem.W.Frag) (_ : Addr) : Sp := Sx K (fun a : List Int × List Bnd => [encR a.1, encW a.2]) (fun _ a => inWs a.1.length a.2) fun a x => x = .bl (a.2.all (mb a.1))
abbrev sp_law_meets (K : PySem.W.Frag) (_ : Addr) : Sp := Sx K (fun a : List Int × List Bnd => [encR a.1, encW a.2]) (fun _ a => inWs a.1.length a.2) fun a x => x = .bl (a.2.all (mb a.1))
abbrev sp_weight_missing (K : PySem.W.Frag) (C : Addr) : Sp := Sx K (fun a : (List Int × List Int) × List (List Int) × Bnd => [dC C a.1.1 a.1.2, dRs a.2.1, encB a.2.2]) (fun _ a => okQ a.1.1 a.1.2 ∧ okR a.1.1.length a.1.2.length a.2.1 ∧ inW a.1.2.length a.2.2) fun a x => x = .int (wm (a.2.1.zip a.1.1) a.2.2)
abbrev sp_C_total (K : PySem.W.Frag) (C : Addr) : Sp := Sx K (fun a : List Int × List Int => [dC C a.1 a.2]) (fun _ _ => True) fun a x => x = .int a.1.sum
abbrev sp_C_allowance (K : PySem.W.Frag) (C : Addr) : Sp := Sx K (fun a : (List Int × List Int) × Int × Bool => [dC C a.1.1 a.1.2, .tup [.int a.2.1, .str (wayS a.2.2)]]) (fun _ a => 0 ≤ a.2.1 ∧ a.2.1 < a.1.2.length) fun a x => x = .int (allow a.1.1 a.1.2 a.2.1 a.2.2)
end DL

namespace DL
open PySem PySem.Spec PyProof.Rows L2
def t_meets (K : PySem.W.Frag) (C : Addr) : TS :=
  (tRet (tCB (rAll K) (tCons (tLc (iList K (tVar 1)) (gName 2) tYes (tCall (sp_meets_bound K C) [] E0 (tCons (tVar 0) (tCons (tVar 2) tNil))) [2]) tNil)))
def t_meets_bound (K : PySem.W.Frag) (C : Addr) : TS :=
  (tSeq (tAsg (tVar 1) (gTup K 3 (gCons (gName 2) (gCons (gName 3) (gCons (gName 4) gNil)))))
    (tSeq (tIfS (tTest (tOp (rEqD K) (tVar 3) (tC (.str ("least" : Str)))))
    (tRet (tOp (rI0 fun i j => .bl (decide (j ≤ i))) (tOp (rIx K) (tVar 0) (tVar 2)) (tVar 4)))
    tNext)
    (tRet (tOp (rI0 fun i j => .bl (decide (i ≤ j))) (tOp (rIx K) (tVar 0) (tVar 2)) (tVar 4)))))
def t_weight_missing (K : PySem.W.Frag) (C : Addr) : TS :=
  (tRet (tCB (rSum K) (tCons (tLc (iZip K (tCons (tVar 1) (tCons (tMeth C "weights" (sp_C_weights K C) [] E0 (tVar 0) tNil) tNil))) (gTup K 2 (gCons (gName 3) (gCons (gName 4) gNil))) (tNot (tB (tCall (sp_meets K C) [] E0 (tCons (tVar 3) (tCons (tLst (tCons (tVar 2) tNil)) tNil))))) (tVar 4) [3, 4]) tNil)))
def t_C_total (K : PySem.W.Frag) (C : Addr) : TS :=
  (tRet (tCB (rSum K) (tCons (tFld K (tVar 0) "_weights") tNil)))
def t_C_allowance (K : PySem.W.Frag) (C : Addr) : TS :=
  (tSeq (tAsg (tVar 1) (gTup K 2 (gCons (gName 2) (gCons (gName 3) gNil))))
    (tSeq (tIfS (tTest (tOp (rEqD K) (tVar 3) (tC (.str ("least" : Str)))))
    (tRet (tOp (rI0 fun i j => .int (i - j)) (tOp (rIx K) (tFld K (tVar 0) "_quotas") (tVar 2)) (tC (.int 1))))
    tNext)
    (tRet (tOp (rI0 fun i j => .int (i - j)) (tMeth C "total" (sp_C_total K C) [] E0 (tVar 0) tNil) (tOp (rIx K) (tFld K (tVar 0) "_quotas") (tVar 2))))))
def t_law_meets (K : PySem.W.Frag) (C : Addr) : TS :=
  (tSeq (tFor (iList K (tVar 1)) (gTup K 3 (gCons (gName 2) (gCons (gName 3) (gCons (gName 4) gNil))))
    (tIfS (tOr (tAnd (tTest (tOp (rEqD K) (tVar 3) (tC (.str ("least" : Str))))) (tTest (tOp (rI0 fun i j => .bl (decide (i < j))) (tOp (rIx K) (tVar 0) (tVar 2)) (tVar 4)))) (tAnd (tTest (tOp (rEqD K) (tVar 3) (tC (.str ("most" : Str))))) (tTest (tOp (rI0 fun i j => .bl (decide (j < i))) (tOp (rIx K) (tVar 0) (tVar 2)) (tVar 4)))))
    (tRet (tC (.bl false)))
    tNext))
    (tRet (tC (.bl true))))
end DL

namespace DL
open PySem PySem.Spec PyProof.Rows L2
section
variable {K : PySem.W.Frag} {C : Addr} {b : Bg} {P : Po}
theorem w_meets_bound {r : List Int} {q : Bnd} (h : inW r.length q) (k : P.rt (.bl (mb r q))) : wps K b (t_meets_bound K C) [.d (encR r), .d (encB q), .u, .u, .u] P := by
  obtain ⟨c, m, v⟩ := q
  have e := rget_at h.1 h.2
  unfold t_meets_bound
  refine wps_seq (wps_asgt [2, 3, 4] (wpe_var (by rfl) (wpg_tup (by rfl) (wpgs_cons (wpg_name (by simp) (wpgs_cons (wpg_name (by simp) (wpgs_cons (wpg_name (by simp) (wpgs_nil ?_)))))))))) 
  refine wps_seq (wps_if (wpt_test (wpe_op (wpe_var (by rfl) (wpe_str (rd_eqD 9 (by decide) (ok_str (wayS_ok _)) (ok_str (by decide +kernel)) ⟨_, rfl, ?_⟩))))))
  rw [show D.eq (.str (wayS (c, m, v).2.1)) (.str ("least" : Str)) = !m from wayS_least m]
  refine ifB (fun z => ?_) (fun z => ?_)
  · have hm : m = false := by simpa using z
    subst hm
    exact wps_ret (wpe_op (wpe_op (wpe_var (by rfl) (wpe_var (by rfl) (rd_ixt e (wpe_var (by rfl) (rd_I0b k)))))))
  · have hm : m = true := by simpa using z
    subst hm
    exact wps_next (wps_ret (wpe_op (wpe_op (wpe_var (by rfl) (wpe_var (by rfl) (rd_ixt e (wpe_var (by rfl) (rd_I0b k))))))))
theorem w_meets {r : List Int} {ws : List Bnd} (h : inWs r.length ws) (k : P.rt (.bl (ws.all (mb r)))) : wps K b (t_meets K C) [.d (encR r), .d (encW ws), .u] P := by
  unfold t_meets
  refine wps_ret (wpe_cb (wpa_cons (wpe_l (wpl_lc (wpi_list (wpe_var (by rfl) ⟨_, rfl, by rw [List.length_map]; have := h.1; omega, fun i acc => acc = ((ws.take i).map (mb r)).map D.bl, rfl, fun i d acc hd hl hI => ?_, fun acc hI => ?_⟩))))))
  · obtain ⟨q, hq, rfl, hm⟩ := map_mem hd
    refine wpg_name (by simp) (wpt_yes (ifT (wpe_callx (wpa_cons (wpe_var (by rfl) (wpa_cons (wpe_var (by rfl) (wpa_nil ⟨(r, q), rfl, h.2 q hm, fun x hx => ?_⟩))))))))
    rw [hx, hI]
    show _ = List.map D.bl (List.map (mb r) (List.take (i + 1) ws))
    rw [take_succ' hq, List.map_append, List.map_append]; rfl
  · rw [List.length_map, List.take_length] at hI
    subst hI
    refine wpa_nil (rc_all ?_)
    rw [List.all_map]
    exact k
theorem w_law_meets {r : List Int} {ws : List Bnd} (h : inWs r.length ws) (k : P.rt (.bl (ws.all (mb r)))) : wps K b (t_law_meets K C) [.d (encR r), .d (encW ws), .u, .u, .u] P := by
  unfold t_law_meets
  refine wps_seq (wps_for [2, 3, 4] (wpi_list (wpe_var (by rfl) ⟨_, rfl, fun i E => (ws.take i).all (mb r) = true ∧ ∃ a c d, E = [.d (encR r), .d (encW ws), a, c, d], ⟨rfl, _, _, _, rfl⟩, fun i d E hd hI => ?_, fun E hI => ?_⟩)))
  · obtain ⟨q, hq, rfl, hm⟩ := map_mem hd
    obtain ⟨hI, a1, a2, a3, rfl⟩ := hI
    have hin := h.2 q hm
    obtain ⟨c, m, v⟩ := q
    have e := rget_at hin.1 hin.2
    refine wpg_tup (by rfl) (wpgs_cons (wpg_name (by simp) (wpgs_cons (wpg_name (by simp) (wpgs_cons (wpg_name (by simp) (wpgs_nil ?_)))))))
    have all1 : ((ws.take (i + 1)).all (mb r)) = (mb r (c, m, v)) := by
      rw [take_succ' hq, List.all_append, hI]; simp
    have yes : mb r (c, m, v) = false → P.rt (.bl false) := fun z => by
      have : ws.all (mb r) = false := by
        rw [List.all_eq_false]
        exact ⟨_, hm, by rw [z]; exact Bool.false_ne_true⟩
      rw [this] at k; exact k
    refine wps_if (wpt_or (wpt_and (wpt_test (wpe_op (wpe_var (by rfl) (wpe_str (rd_eqD 9 (by decide) (ok_str (wayS_ok _)) (ok_str (by decide +kernel)) ⟨_, rfl, ?_⟩)))))))
    rw [show D.eq (.str (wayS (c, m, v).2.1)) (.str ("least" : Str)) = !m from wayS_least m]
    cases m with
    | false =>
      refine ifT (wpt_test (wpe_op (wpe_op (wpe_var (by rfl) (wpe_var (by rfl) (rd_ixt e (wpe_var (by rfl) (rd_I0b ⟨_, rfl, ?_⟩))))))))
      refine ifB (fun z => ?_) (fun z => ?_)
      · refine ifT (wps_ret (wpe_bl (yes ?_)))
        have y : rget r c < v := of_decide_eq_true z
        exact decide_eq_false (show ¬ v ≤ rget r c by omega)
      · refine wpt_and (wpt_test (wpe_op (wpe_var (by rfl) (wpe_str (rd_eqD 9 (by decide) (ok_str (wayS_ok _)) (ok_str (by decide +kernel)) ⟨_, rfl, ?_⟩)))))
        rw [show D.eq (.str (wayS (c, false, v).2.1)) (.str ("most" : Str)) = false from wayS_most false]
        refine ifF (ifF (wps_next ⟨?_, _, _, _, rfl⟩))
        rw [all1]
        have y : ¬ rget r c < v := of_decide_eq_false z
        exact decide_eq_true (show v ≤ rget r c by omega)
    | true =>
      refine ifF (ifF (wpt_and (wpt_test (wpe_op (wpe_var (by rfl) (wpe_str (rd_eqD 9 (by decide) (ok_str (wayS_ok _)) (ok_str (by decide +kernel)) ⟨_, rfl, ?_⟩)))))))
      rw [show D.eq (.str (wayS (c, true, v).2.1)) (.str ("most" : Str)) = true from wayS_most true]
      refine ifT (wpt_test (wpe_op (wpe_op (wpe_var (by rfl) (wpe_var (by rfl) (rd_ixt e (wpe_var (by rfl) (rd_I0b ⟨_, rfl, ?_⟩))))))))
      refine ifB (fun z => ?_) (fun z => ?_)
      · refine wps_ret (wpe_bl (yes ?_))
        have y : v < rget r c := of_decide_eq_true z
        exact decide_eq_false (show ¬ rget r c ≤ v by omega)
      · refine wps_next ⟨?_, _, _, _, rfl⟩
        rw [all1]
        have y : ¬ v < rget r c := of_decide_eq_false z
        exact decide_eq_true (show rget r c ≤ v by omega)
  · obtain ⟨hI, a1, a2, a3, rfl⟩ := hI
    rw [List.length_map, List.take_length] at hI
    refine wps_ret (wpe_bl ?_)
    rw [hI] at k; exact k
theorem w_weight_missing {ws qs : List Int} {rs : List (List Int)} {q : Bnd} (h : okQ ws qs) (hr : okR ws.length qs.length rs) (hq : inW qs.length q) (k : P.rt (.int (wm (rs.zip ws) q))) : wps K b (t_weight_missing K C) [.d (dC C ws qs), .d (dRs rs), .d (encB q), .u, .u] P := by
  unfold t_weight_missing
  have hrl := hr.1
  have hw7 := h.1.2
  refine wps_ret (wpe_cb (wpa_cons (wpe_l (wpl_lc (wpi_zip (wpa_cons (wpe_var (by rfl) (wpa_cons (wpe_l (wpl_methy (wpe_var (by rfl) ⟨_, _, rfl, no_weights, wpa_nil ⟨(ws, qs), rfl, trivial, fun es he => ?_⟩⟩)))))))))))
  subst he
  have hzl : (zipD (rs.map encR) (ws.map D.int)).length = (rs.zip ws).length := by rw [zipD_len, List.length_map, List.length_map, List.length_zip]
  refine wpa_nil ⟨_, _, rfl, by rw [hzl, List.length_zip]; omega, fun i acc => acc = ((((rs.zip ws).take i).filter fun p => !mb p.1 q).map (·.2)).map D.int, rfl, fun i d acc hd hl hI => ?_, fun acc hI => ?_⟩
  · have hi : i < (rs.zip ws).length := by rw [← hzl]; exact (List.getElem?_eq_some_iff.mp hd).1
    have ez : (rs.zip ws)[i]? = some (rs.zip ws)[i] := List.getElem?_eq_getElem hi
    generalize (rs.zip ws)[i] = p at ez
    obtain ⟨e1, e2⟩ := List.getElem?_zip_eq_some.mp ez
    have e1' : (rs.map encR)[i]? = some (encR p.1) := by rw [List.getElem?_map, e1]; rfl
    have e2' : (ws.map D.int)[i]? = some (.int p.2) := by rw [List.getElem?_map, e2]; rfl
    rw [zipD_get e1' e2'] at hd
    cases hd
    have hrow := (hr.2 p.1 (List.mem_of_getElem? e1)).1
    refine wpg_tup (by rfl) (wpgs_cons (wpg_name (by simp) (wpgs_cons (wpg_name (by simp) (wpgs_nil ?_)))))
    refine wpt_not (wpt_B (wpe_callx (wpa_cons (wpe_var (by rfl) (wpa_cons (wpe_l (wpl_lst (wpa_cons (wpe_var (by rfl) (wpa_nil ⟨len_le rfl, wpa_nil ⟨(p.1, [q]), rfl, ⟨by show 1 ≤ 20; decide, fun z hz => ?_⟩, fun x hx => ?_⟩⟩))))))))))
    · rw [List.mem_singleton.mp hz]
      show inW p.1.length q
      rw [hrow]; exact hq
    have hx' : x = .bl (mb p.1 q) := by rw [hx]; simp
    refine ⟨_, hx', ifB (fun z => ?_) (fun z => ?_)⟩
    · refine wpe_var (by rfl) ?_
      rw [hI]
      show _ = List.map D.int (List.map (fun x => x.2) (List.filter (fun p => !mb p.1 q) (List.take (i + 1) (rs.zip ws))))
      rw [filter_succ ez, if_pos (by exact z), List.map_append, List.map_append]; rfl
    · rw [hI]
      show _ = List.map D.int (List.map (fun x => x.2) (List.filter (fun p => !mb p.1 q) (List.take (i + 1) (rs.zip ws))))
      rw [filter_succ ez, if_neg (by rw [show (!mb p.1 q) = false from z]; exact Bool.false_ne_true), List.append_nil]
  · have hI' : acc = ((((rs.zip ws).take (zipD (rs.map encR) (ws.map D.int)).length).filter fun p => !mb p.1 q).map (·.2)).map D.int := hI
    rw [hzl, List.take_length] at hI'
    subst hI'
    exact wpa_nil (rc_sum k)
theorem w_C_total (c : CF K C) {ws qs : List Int} (k : P.rt (.int ws.sum)) : wps K b (t_C_total K C) [.d (dC C ws qs)] P := by
  unfold t_C_total
  exact wps_ret (wpe_cb (wpa_cons (wpe_fld c.cl c.nW (wpe_var (by rfl) ⟨_, _, _, rfl, look_w (C := C), wpa_nil (rc_sum k)⟩))))
theorem rget_atL {r : List Int} {c : Int} (h0 : 0 ≤ c) (h1 : c < r.length) : atI (r.map D.int) c = some (.int (rget r c)) := rget_at h0 h1
theorem w_C_allowance (cf : CF K C) {ws qs : List Int} {c : Int} {m : Bool} (h0 : 0 ≤ c) (h1 : c < qs.length) (k : P.rt (.int (allow ws qs c m))) : wps K b (t_C_allowance K C) [.d (dC C ws qs), .d (.tup [.int c, .str (wayS m)]), .u, .u] P := by
  unfold t_C_allowance
  refine wps_seq (wps_asgt [2, 3] (wpe_var (by rfl) (wpg_tup (by rfl) (wpgs_cons (wpg_name (by simp) (wpgs_cons (wpg_name (by simp) (wpgs_nil ?_)))))))) 
  refine wps_seq (wps_if (wpt_test (wpe_op (wpe_var (by rfl) (wpe_str (rd_eqD 9 (by decide) (ok_str (wayS_ok _)) (ok_str (by decide +kernel)) ⟨_, rfl, ?_⟩))))))
  rw [wayS_least m]
  refine ifB (fun z => ?_) (fun z => wps_next ?_)
  · have hm : m = false := by simpa using z
    subst hm
    exact wps_ret (wpe_op (wpe_op (wpe_fld cf.cl cf.nQ (wpe_var (by rfl) ⟨_, _, _, rfl, look_q (C := C), wpe_var (by rfl) (rd_ixl (rget_atL h0 h1) (wpe_int (rd_I0i k)))⟩))))
  · have hm : m = true := by simpa using z
    subst hm
    refine wps_ret (wpe_op (wpe_methx (wpe_var (by rfl) ⟨_, _, rfl, no_total, wpa_nil ⟨(ws, qs), rfl, trivial, fun y hy => ?_⟩⟩)))
    subst hy
    exact wpe_op (wpe_fld cf.cl cf.nQ (wpe_var (by rfl) ⟨_, _, _, rfl, look_q (C := C), wpe_var (by rfl) (rd_ixl (rget_atL h0 h1) (rd_I0i k))⟩))
end
theorem no_allowance : ("allowance" : Str) ∉ cNames := by decide +kernel
section
variable {K : PySem.W.Frag} {C : Addr} {vs : List V} {H : Hp} {Q : VK} {EE : XK}
theorem ln_meets_bound (h : sp_meets_bound K C vs H Q EE) : vs.length = 2 := ln_x h fun _ => rfl
theorem ln_meets (h : sp_meets K C vs H Q EE) : vs.length = 2 := ln_x h fun _ => rfl
theorem ln_law_meets (h : sp_law_meets K C vs H Q EE) : vs.length = 2 := ln_x h fun _ => rfl
theorem ln_weight_missing (h : sp_weight_missing K C vs H Q EE) : vs.length = 3 := ln_x h fun _ => rfl
theorem ln_C_total (h : sp_C_total K C vs H Q EE) : vs.length = 1 := ln_x h fun _ => rfl
theorem ln_C_allowance (h : sp_C_allowance K C vs H Q EE) : vs.length = 2 := ln_x h fun _ => rfl
theorem r_meets_bound (cf : CF K C) (h : sp_meets_bound K C vs H Q EE) : t_meets_bound K C (De Q) (L2.start ["row", "bound", "column", "way", "value"] vs) H := r_x2 (N := ["row", "bound", "column", "way", "value"]) h (fun b a hp => w_meets_bound hp rfl)
theorem r_meets (cf : CF K C) (h : sp_meets K C vs H Q EE) : t_meets K C (De Q) (L2.start ["row", "wish", "bound"] vs) H := r_x2 (N := ["row", "wish", "bound"]) h (fun b a hp => w_meets hp rfl)
theorem r_law_meets (cf : CF K C) (h : sp_law_meets K C vs H Q EE) : t_law_meets K C (De Q) (L2.start ["row", "wish", "column", "way", "value"] vs) H := r_x2 (N := ["row", "wish", "column", "way", "value"]) h (fun b a hp => w_law_meets hp rfl)
theorem r_weight_missing (cf : CF K C) (h : sp_weight_missing K C vs H Q EE) : t_weight_missing K C (De Q) (L2.start ["council", "rows", "bound", "row", "weight"] vs) H := r_x2 (N := ["council", "rows", "bound", "row", "weight"]) h (fun b a hp => w_weight_missing hp.1 hp.2.1 hp.2.2 rfl)
theorem r_C_total (cf : CF K C) (h : sp_C_total K C vs H Q EE) : t_C_total K C (De Q) (L2.start ["self"] vs) H := r_x2 (N := ["self"]) h (fun b a hp => w_C_total cf rfl)
theorem r_C_allowance (cf : CF K C) (h : sp_C_allowance K C vs H Q EE) : t_C_allowance K C (De Q) (L2.start ["self", "side", "column", "way"] vs) H := r_x2 (N := ["self", "side", "column", "way"]) h (fun b a hp => w_C_allowance cf hp.1 hp.2 rfl)
end
end DL

namespace DL
open PySem PySem.Spec PyProof.Rows L2
/-! slices from, to; a list again and again -/
theorem cut_from {ds : List D} {k : Nat} (h : k ≤ ds.length) : cutD ds (some (k : Int)) none = ds.drop k := by
  have e : HT.sIx ds.length 0 (some (k : Int)) = k := by
    show (if (k : Int) < 0 then ((k : Int) + (ds.length : Int)).toNat else min (k : Int).toNat ds.length) = k
    rw [if_neg (by omega), Int.toNat_natCast]; omega
  have e2 : HT.sIx ds.length ds.length none = ds.length := rfl
  unfold cutD
  rw [e, e2, List.take_of_length_le (by rw [List.length_drop]; exact Nat.le_refl _)]
theorem cut_to {ds : List D} {k : Nat} (h : k ≤ ds.length) : cutD ds none (some (k : Int)) = ds.take k := by
  have e : HT.sIx ds.length ds.length (some (k : Int)) = k := by
    show (if (k : Int) < 0 then ((k : Int) + (ds.length : Int)).toNat else min (k : Int).toNat ds.length) = k
    rw [if_neg (by omega), Int.toNat_natCast]; omega
  have e2 : HT.sIx ds.length 0 none = 0 := rfl
  unfold cutD
  rw [e, e2, Nat.sub_zero, List.drop_zero]
theorem dva_rep {K : PySem.W.Frag} {b : Bg} {F : Hp} {vs : List V} {ds : List D} (h : DvA K b F vs ds) : ∀ n : Nat, DvA K b F (List.replicate n vs).flatten (List.replicate n ds).flatten
  | 0 => .nil
  | n + 1 => by
    rw [List.replicate_succ, List.replicate_succ, List.flatten_cons, List.flatten_cons]
    exact h.app (dva_rep h n)
theorem rd_rep1 {K : PySem.W.Frag} {b : Bg} {x : D} {k : Nat} {Φ : List D → Prop} (hk : k ≤ 1000) (q : Φ (List.replicate k x)) : rd2l K b rRep (.lst [x]) (.int (k : Int)) Φ := fun F H v u w d1 d2 Q kk => by
  cases d2
  cases d1 with
  | lst s a =>
    have e : (List.replicate k [x]).flatten = List.replicate k x := by
      clear q
      induction k with
      | zero => rfl
      | succ k ih => rw [List.replicate_succ, List.flatten_cons, ih (by omega), List.replicate_succ]; rfl
    refine ⟨_, _, _, rfl, rfl, w.ex _ _ s, by omega, by omega, ?_, fun p hp => ?_⟩
    · rw [a.len, Int.toNat_natCast]
      show 1 * k ≤ sizeLine
      exact Nat.le_trans (show 1 * k ≤ 1000 by omega) (by decide)
    obtain ⟨w2, s2⟩ := w.newO (o := .lst _) hp
    refine kk p _ F _ _ s2 w2 hp (w.outN hp) upd_same ?_ q
    have := dva_rep a k
    rw [e] at this
    rw [Int.toNat_natCast]; exact this
section
variable {K : PySem.W.Frag} {b : Bg}
theorem rcMaxL {ns : List Int} {Φ : D → Prop} (hl : 0 < ns.length) (q : ∀ m, m ∈ ns → (∀ y, y ∈ ns → y ≤ m) → Φ (.int m)) : rdc K b (rMax K) [.lst (ns.map D.int)] Φ := fun F H vs w d Q k => by
  cases d with
  | cons d1 d =>
    cases d
    cases d1 with
    | lst s a =>
      have e := a.ints
      subst e
      exact ⟨_, ns, rfl, SqL.of (w.ex _ _ s), hl, fun m h1 h2 => k _ F H _ .refl w (.int _) (q m h1 h2)⟩
end
theorem pow6 : (10 : Int) ^ (6 : Int).toNat = 1000000 := by decide +kernel
/-! maps that keep the order -/
def mono (f : Int → Int) : Prop := ∀ x y, x ≤ y → f x ≤ f y
theorem wz_map_le {f : Int → Int} {zs : List (Int × Int)} {x y : Int} (hw : ∀ p ∈ zs, 0 ≤ p.2) (h : ∀ p ∈ zs, p.1 ≤ x → f p.1 ≤ y) : wz zs x ≤ wz (zs.map fun p => (f p.1, p.2)) y := by
  induction zs with
  | nil => exact Int.le_refl _
  | cons p zs ih =>
    have h1 := ih (fun q hq => hw q (List.mem_cons_of_mem _ hq)) fun q hq => h q (List.mem_cons_of_mem _ hq)
    have h2 := hw p List.mem_cons_self
    have h3 := h p List.mem_cons_self
    rw [List.map_cons, wz_cons, wz_cons]
    split
    · rename_i z
      rw [if_pos (show (f p.1, p.2).1 ≤ y from h3 z)]
      show p.2 + _ ≤ p.2 + _
      omega
    · split
      · show 0 + _ ≤ p.2 + _; omega
      · omega
theorem wz_map_ge {f : Int → Int} {zs : List (Int × Int)} {x y : Int} (hw : ∀ p ∈ zs, 0 ≤ p.2) (h : ∀ p ∈ zs, f p.1 ≤ y → p.1 ≤ x) : wz (zs.map fun p => (f p.1, p.2)) y ≤ wz zs x := by
  induction zs with
  | nil => exact Int.le_refl _
  | cons p zs ih =>
    have h1 := ih (fun q hq => hw q (List.mem_cons_of_mem _ hq)) fun q hq => h q (List.mem_cons_of_mem _ hq)
    have h2 := hw p List.mem_cons_self
    have h3 := h p List.mem_cons_self
    rw [List.map_cons, wz_cons, wz_cons]
    by_cases z : f p.1 ≤ y
    · rw [if_pos (show (f p.1, p.2).1 ≤ y from z), if_pos (h3 z)]
      show p.2 + _ ≤ p.2 + _
      omega
    · rw [if_neg (show ¬ (f p.1, p.2).1 ≤ y from z)]
      split
      · omega
      · omega
theorem isLeast_map {f : Int → Int} (hf : mono f) {es ws : List Int} {q m : Int} (hw : ∀ w ∈ ws, 0 ≤ w) (h0 : 1 ≤ q) (h : isLeast es ws q m) : isLeast (es.map f) ws q (f m) := by
  have nn : ∀ p ∈ es.zip ws, 0 ≤ p.2 := fun p hp => hw _ (List.of_mem_zip hp).2
  have ez : (es.map f).zip ws = (es.zip ws).map fun p => (f p.1, p.2) := by rw [List.zip_map_left]; rfl
  refine ⟨List.mem_map.mpr ⟨m, h.1, rfl⟩, ?_, fun e he hq => ?_⟩
  · rw [ez]
    exact Int.le_trans h.2.1 (wz_map_le nn fun p _ hp => hf _ _ hp)
  · obtain ⟨x, hx, rfl⟩ := List.mem_map.mp he
    refine Int.not_lt.mp fun hlt => ?_
    rw [ez] at hq
    have h1 : q ≤ wz (es.zip ws) (m - 1) := Int.le_trans hq (wz_map_ge nn fun p _ hp => by
      refine Int.not_lt.mp fun z => ?_
      have := hf m p.1 (by omega)
      omega)
    have := (isLeast_le hw h0 h (m - 1)).mp h1
    omega
theorem rget_map {f : Int → Int} {r : List Int} {c : Nat} (h : c < r.length) : rget (r.map f) (c : Int) = f (rget r (c : Int)) := by
  unfold rget
  rw [Int.toNat_natCast, List.getD, List.getD, List.getElem?_map, List.getElem?_eq_getElem h]; rfl
theorem isMade_map {f : Int → Int} (hf : mono f) {ws qs : List Int} {rs : List (List Int)} {r : List Int} (hw : ∀ w ∈ ws, 0 ≤ w) (hq : ∀ q ∈ qs, 1 ≤ q) (hl : ∀ r ∈ rs, r.length = qs.length) (h : isMade ws qs rs r) :
    isMade ws qs (rs.map fun r => r.map f) (r.map f) := by
  refine ⟨by rw [List.length_map]; exact h.1, fun c q m h1 h2 => ?_⟩
  rw [List.getElem?_map] at h2
  have hcl : c < qs.length := (List.getElem?_eq_some_iff.mp h1).1
  cases e : r[c]? with
  | none => rw [e] at h2; cases h2
  | some m0 =>
    rw [e] at h2
    cases h2
    have := isLeast_map hf hw (hq q (List.mem_of_getElem? h1)) (h.2 c q m0 h1 e)
    rw [List.map_map] at this ⊢
    have e2 : (rs.map ((fun r => rget r (c : Int)) ∘ fun r => r.map f)) = rs.map (f ∘ fun r => rget r (c : Int)) := List.map_congr_left fun r hr => rget_map (by rw [hl r hr]; exact hcl)
    rw [e2]; exact this
/-- the same entries, the same weights -/
theorem isLeast_same {es ws es' ws' : List Int} {q m : Int} (h1 : ∀ x, x ∈ es' ↔ x ∈ es) (h2 : ∀ e, wz (es'.zip ws') e = wz (es.zip ws) e) (h : isLeast es ws q m) : isLeast es' ws' q m :=
  ⟨(h1 m).mpr h.1, by rw [h2]; exact h.2.1, fun e he hq => h.2.2 e ((h1 e).mp he) (by rw [← h2]; exact hq)⟩
theorem isMade_same {ws ws' qs : List Int} {rs rs' : List (List Int)} {r : List Int} (h1 : ∀ x, x ∈ rs' ↔ x ∈ rs) (h2 : ∀ (c : Nat) e, wz ((rs'.map fun r => rget r (c : Int)).zip ws') e = wz ((rs.map fun r => rget r (c : Int)).zip ws) e) (h : isMade ws qs rs r) : isMade ws' qs rs' r :=
  ⟨h.1, fun c q m e1 e2 => isLeast_same (fun x => by
    rw [List.mem_map, List.mem_map]
    exact ⟨fun ⟨r, a, b⟩ => ⟨r, (h1 r).mp a, b⟩, fun ⟨r, a, b⟩ => ⟨r, (h1 r).mpr a, b⟩⟩) (h2 c) (h.2 c q m e1 e2)⟩
theorem mem_rot {α : Type} (l : List α) (t : Nat) (x : α) : x ∈ l.drop t ++ l.take t ↔ x ∈ l := by
  rw [List.mem_append]
  have := List.take_append_drop t l
  constructor
  · rintro (h | h)
    · exact List.mem_of_mem_drop h
    · exact List.mem_of_mem_take h
  · intro h
    rw [← this] at h
    rcases List.mem_append.mp h with h | h
    · exact .inr h
    · exact .inl h
theorem zip_take {α β : Type} (t : Nat) : ∀ (as : List α) (bs : List β), (as.take t).zip (bs.take t) = (as.zip bs).take t := by
  induction t with
  | zero => intro as bs; simp
  | succ t ih =>
    intro as bs
    match as, bs with
    | [], _ => simp
    | _ :: _, [] => simp
    | a :: as, b :: bs => rw [List.take_succ_cons, List.take_succ_cons, List.zip_cons_cons, List.zip_cons_cons, List.take_succ_cons, ih]
theorem zip_drop {α β : Type} (t : Nat) : ∀ (as : List α) (bs : List β), (as.drop t).zip (bs.drop t) = (as.zip bs).drop t := by
  induction t with
  | zero => intro as bs; simp
  | succ t ih =>
    intro as bs
    match as, bs with
    | [], _ => simp
    | _ :: _, [] => simp
    | a :: as, b :: bs => rw [List.drop_succ_cons, List.drop_succ_cons, List.zip_cons_cons, List.drop_succ_cons, ih]
theorem isMade_rot {ws qs : List Int} {rs : List (List Int)} {r : List Int} (t : Nat) (hl : rs.length = ws.length) (h : isMade ws qs rs r) : isMade (ws.drop t ++ ws.take t) qs (rs.drop t ++ rs.take t) r := by
  refine isMade_same (mem_rot rs t) (fun c e => ?_) h
  rw [List.map_append, List.map_drop, List.map_take, List.zip_append (by rw [List.length_drop, List.length_drop, List.length_map, hl]), wz_append, Int.add_comm, ← wz_append, zip_take, zip_drop, List.take_append_drop]
theorem sum_rot (ws : List Int) (t : Nat) : (ws.drop t ++ ws.take t).sum = ws.sum := by
  rw [List.sum_append, Int.add_comm, ← List.sum_append, List.take_append_drop]
theorem isMade_all {ws qs r row : List Int} {n : Nat} (hl : row.length = qs.length) (h : isMade ws qs (List.replicate n row) r) : r = row := by
  refine list_of_get (by rw [h.1, hl]) fun j y e => ?_
  have hj : j < qs.length := by rw [← h.1]; exact (List.getElem?_eq_some_iff.mp e).1
  have hm := (h.2 j _ y (List.getElem?_eq_getElem hj) e).1
  rw [List.map_replicate, List.mem_replicate] at hm
  have hjr : j < row.length := by omega
  have : rget row (j : Int) = row[j] := by unfold rget; rw [Int.toNat_natCast, List.getD, List.getElem?_eq_getElem hjr]; rfl
  rw [hm.2, this]; exact List.getElem?_eq_getElem hjr
theorem isMade_merge {w0 w1 : Int} {t qs r : List Int} {r1 : List Int} {s : List (List Int)} (h : isMade (w0 :: w1 :: t) qs (r1 :: r1 :: s) r) : isMade ((w0 + w1) :: t) qs (r1 :: s) r := by
  refine isMade_same (fun x => by simp) (fun c e => ?_) h
  rw [List.map_cons, List.map_cons, List.map_cons, List.zip_cons_cons, List.zip_cons_cons, List.zip_cons_cons, wz_cons, wz_cons, wz_cons]
  show (if rget r1 (c : Int) ≤ e then w0 + w1 else 0) + _ = (if rget r1 (c : Int) ≤ e then w0 else 0) + ((if rget r1 (c : Int) ≤ e then w1 else 0) + _)
  split <;> omega
def fmap (way : Int) (e : Int) : Int := if way = 0 then e / 2 else if way = 1 then (if e > 0 then e else 0) else e * e * e
theorem cube_mono {x y : Int} (h : x ≤ y) : x * x * x ≤ y * y * y := by
  have e : y * y * y - x * x * x = (y - x) * (x * x + x * y + y * y) := by grind
  have e2 : 2 * (x * x + x * y + y * y) = x * x + y * y + (x + y) * (x + y) := by grind
  have s1 : 0 ≤ x * x := by rcases Int.le_total 0 x with h | h; exact Int.mul_nonneg h h; exact Int.mul_nonneg_of_nonpos_of_nonpos h h
  have s2 : 0 ≤ y * y := by rcases Int.le_total 0 y with h | h; exact Int.mul_nonneg h h; exact Int.mul_nonneg_of_nonpos_of_nonpos h h
  have s3 : 0 ≤ (x + y) * (x + y) := by rcases Int.le_total 0 (x + y) with h | h; exact Int.mul_nonneg h h; exact Int.mul_nonneg_of_nonpos_of_nonpos h h
  have s4 : 0 ≤ x * x + x * y + y * y := by omega
  have := Int.mul_nonneg (show 0 ≤ y - x by omega) s4
  omega
theorem fmap_mono (way : Int) : mono (fmap way) := fun x y h => by
  unfold fmap
  split
  · omega
  · split
    · split <;> split <;> omega
    · exact cube_mono h
theorem cube_small {e : Int} (h : e.natAbs ≤ 10 ^ 6) : (e * e * e).natAbs ≤ 10 ^ 18 := by
  rw [Int.natAbs_mul, Int.natAbs_mul]
  exact Nat.le_trans (Nat.mul_le_mul (Nat.mul_le_mul h h) h) (by decide)
theorem fmap_small {way e : Int} (h : e.natAbs ≤ 10 ^ 6) : (fmap way e).natAbs ≤ 10 ^ 18 := by
  have e1 : (10 : Nat) ^ 6 = 1000000 := by decide
  have e2 : (10 : Nat) ^ 18 = 1000000000000000000 := by decide
  unfold fmap
  split
  · omega
  · split
    · split <;> omega
    · exact cube_small h
def okS (n w : Nat) (rs : List (List Int)) : Prop := rs.length = n ∧ ∀ r ∈ rs, r.length = w ∧ ∀ v ∈ r, v.natAbs ≤ 10 ^ 6
theorem okS.r {n w : Nat} {rs : List (List Int)} (h : okS n w rs) : okR n w rs := ⟨h.1, fun r hr => ⟨(h.2 r hr).1, fun v hv => Nat.le_trans ((h.2 r hr).2 v hv) (by decide)⟩⟩
abbrev sp_law_small (K : PySem.W.Frag) (_ : Addr) : Sp := Sx K (fun a : Nat × Nat × List (List Int) => [dRs a.2.2]) (fun _ a => a.1 ≤ 7 ∧ a.2.1 ≤ 6 ∧ okR a.1 a.2.1 a.2.2) fun a x => ∃ gs, x = dRs gs ∧ okS a.1 a.2.1 gs
abbrev sp_law_mapped (K : PySem.W.Frag) (_ : Addr) : Sp := Sx K (fun a : List (List Int) × Int => [dRs a.1, .int a.2]) (fun _ a => 0 ≤ a.2 ∧ a.2 < 3 ∧ a.1.length ≤ 7 ∧ ∀ r ∈ a.1, r.length ≤ 6 ∧ ∀ v ∈ r, v.natAbs ≤ 10 ^ 6) fun a x => x = dRs (a.1.map fun r => r.map (fmap a.2))
end DL

namespace DL
open PySem PySem.Spec PyProof.Rows L2
def t_law_mapped (K : PySem.W.Frag) (C : Addr) : TS :=
  (tSeq (tAsg (tLst tNil) (gName 2))
    (tSeq (tFor (iList K (tVar 0)) (gName 3)
    (tDrop (tBM K "list" rAppend (tVar 2) (tCons (tCB (rTuple K) (tCons (tLc (iTup K (tVar 3)) (gName 4) tYes (tOp (rIx K) (tLst (tCons (tOp (rI CDivW fun i j => .int (i / j)) (tVar 4) (tC (.int 2))) (tCons (tCB rMax2 (tCons (tC (.int 0)) (tCons (tVar 4) tNil))) (tCons (tOp (rI CMul fun i j => .int (i * j)) (tOp (rI CMul fun i j => .int (i * j)) (tVar 4) (tVar 4)) (tVar 4)) tNil)))) (tVar 1)) [4]) tNil)) tNil))))
    (tRet (tVar 2))))
def t_law_small (K : PySem.W.Frag) (C : Addr) : TS :=
  (tRet (tLc (iList K (tVar 0)) (gName 1) tYes (tCB (rTuple K) (tCons (tLc (iTup K (tVar 1)) (gName 2) tYes (tCB rMax2 (tCons (tUn (rU fun i => .int (-i)) (tOp (rI CPow fun i j => .int (i ^ j.toNat)) (tC (.int 10)) (tC (.int 6)))) (tCons (tCB rMin2 (tCons (tOp (rI CPow fun i j => .int (i ^ j.toNat)) (tC (.int 10)) (tC (.int 6))) (tCons (tVar 2) tNil))) tNil))) [2]) tNil)) [1]))
end DL

namespace DL
open PySem PySem.Spec PyProof.Rows L2
section
variable {K : PySem.W.Frag} {C : Addr} {b : Bg} {P : Po}
theorem clamp6 (v : Int) : (if (if v < 1000000 then v else 1000000) > -1000000 then (if v < 1000000 then v else 1000000) else (-1000000 : Int)).natAbs ≤ 10 ^ 6 := by
  have e1 : (10 : Nat) ^ 6 = 1000000 := by decide
  split <;> split <;> omega
theorem w_law_small {n w : Nat} {rs : List (List Int)} (hn : n ≤ 7) (hw : w ≤ 6) (hr : okR n w rs) (k : ∀ gs, okS n w gs → P.rl (gs.map encR)) : wps K b (t_law_small K C) [.d (dRs rs), .u, .u] P := by
  unfold t_law_small
  refine wps_retl (wpl_gen1 (R := fun j y => ∃ g : List Int, y = encR g ∧ g.length = w ∧ ∀ v ∈ g, v.natAbs ≤ 10 ^ 6) (wpi_list (wpe_var (by rfl) ⟨_, rfl, by rw [List.length_map, hr.1]; omega, fun j d hd => ?_, fun acc hl hR => ?_⟩)))
  · obtain ⟨r, hr1, rfl, hm⟩ := map_mem hd
    have hrl := (hr.2 r hm).1
    refine wpe_cb (wpa_cons (wpe_l (wpl_gen1 (R := fun _ y => ∃ v : Int, y = .int v ∧ v.natAbs ≤ 10 ^ 6) (wpi_tup (wpe_var (by rfl) ⟨_, rfl, by rw [List.length_map, hrl]; omega, fun i d hd => ?_, fun acc hl hR => wpa_nil (rc_tupleL ?_)⟩)))))
    · obtain ⟨e, he, rfl, hem⟩ := map_mem hd
      refine wpe_cb (wpa_cons (wpe_un (wpe_op (wpe_int (wpe_int (rd_I ⟨by decide, by decide, by decide⟩ (rd_neg ?_)))))))
      rw [pow6]
      refine wpa_cons (wpe_cb (wpa_cons (wpe_op (wpe_int (wpe_int (rd_I ⟨by decide, by decide, by decide⟩ ?_))))))
      rw [pow6]
      exact wpa_cons (wpe_var (by rfl) (wpa_nil (rcMin (wpa_nil (rcMax ⟨_, rfl, clamp6 e⟩)))))
    · obtain ⟨g, rfl, hg⟩ := ints_of hR
      rw [List.length_map, List.length_map] at hl
      exact ⟨g, rfl, by omega, fun v hv => by
        obtain ⟨i, hi⟩ := List.mem_iff_getElem?.mp hv
        exact hg i v hi⟩
  · obtain ⟨gs, rfl, hgs⟩ := maps_of hR
    rw [List.length_map, List.length_map, hr.1] at hl
    exact k gs ⟨hl, fun g hg => by
      obtain ⟨i, hi⟩ := List.mem_iff_getElem?.mp hg
      exact hgs i g hi⟩
theorem w_law_mapped {rs : List (List Int)} {way : Int} (y0 : 0 ≤ way) (y3 : way < 3) (hl : rs.length ≤ 7) (hr : ∀ r ∈ rs, r.length ≤ 6 ∧ ∀ v ∈ r, v.natAbs ≤ 10 ^ 6) (k : P.rl ((rs.map fun r => r.map (fmap way)).map encR)) :
    wps K b (t_law_mapped K C) [.d (dRs rs), .d (.int way), .u, .u, .u] P := by
  unfold t_law_mapped
  refine wps_seq (wps_asgl (wpl_lst (wpa_nil ⟨by decide, ?_⟩)))
  refine wps_seq (wps_for [3] (wpi_list (wpe_var (by rfl) ⟨_, rfl, fun i E => ∃ a3, E = [.d (dRs rs), .d (.int way), .o (((rs.take i).map fun r => r.map (fmap way)).map encR), a3, .u], ⟨_, rfl⟩, fun i d E hd hI => ?_, fun E hI => ?_⟩)))
  · obtain ⟨a3, rfl⟩ := hI
    obtain ⟨r, hr1, rfl, hm⟩ := map_mem hd
    obtain ⟨hr6, hrv⟩ := hr r hm
    refine wpg_name (by simp) (wps_append (by rfl) (wpe_cb (wpa_cons (wpe_l (wpl_gen1 (R := fun j y => ∃ v : Int, y = .int v ∧ ∀ e, r[j]? = some e → v = fmap way e) (wpi_tup (wpe_var (by rfl) ⟨_, rfl, by rw [List.length_map]; omega, fun j d hd => ?_, fun acc hl2 hR => wpa_nil (rc_tupleL ?_)⟩)))))))
    · obtain ⟨e, he, rfl, hem⟩ := map_mem hd
      have hev := hrv e hem
      have e6 : (10 : Nat) ^ 6 = 1000000 := by decide
      refine wpe_op (wpe_l (wpl_lst (wpa_cons (wpe_op (wpe_var (by rfl) (wpe_int (rd_I ⟨by decide, by decide +kernel⟩ ?_)))))))
      refine wpa_cons (wpe_cb (wpa_cons (wpe_int (wpa_cons (wpe_var (by rfl) (wpa_nil (rcMax ?_)))))))
      refine wpa_cons (wpe_op (wpe_op (wpe_var (by rfl) (wpe_var (by rfl) (rd_I (.inl ⟨by omega, by omega⟩) (wpe_var (by rfl) (rd_I (.inr ⟨by omega, by omega⟩) ?_)))))))
      refine wpa_nil ⟨len_le rfl, wpe_var (by rfl) ?_⟩
      have hway : way = 0 ∨ way = 1 ∨ way = 2 := by omega
      have un : ∀ v : Int, v = fmap way e → ∃ u : Int, D.int v = .int u ∧ ∀ e', r[j]? = some e' → u = fmap way e' := fun v hv => ⟨v, rfl, fun e' h => by rw [he] at h; cases h; exact hv⟩
      rcases hway with rfl | rfl | rfl
      · exact rd_ixl (d := .int (e / 2)) rfl (un _ rfl)
      · exact rd_ixl (d := .int (if e > 0 then e else 0)) rfl (un _ rfl)
      · exact rd_ixl (d := .int (e * e * e)) rfl (un _ rfl)
    · obtain ⟨g, rfl, hg⟩ := ints_of hR
      rw [List.length_map, List.length_map] at hl2
      have hge : g = r.map (fmap way) := list_of_get (by rw [List.length_map]; exact hl2) fun j y z => by
        have hj : j < r.length := by rw [← hl2]; exact (List.getElem?_eq_some_iff.mp z).1
        rw [List.getElem?_map, List.getElem?_eq_getElem hj, hg j y z _ (List.getElem?_eq_getElem hj)]; rfl
      subst hge
      have hi : i < rs.length := (List.getElem?_eq_some_iff.mp hr1).1
      refine ⟨by rw [List.length_map, List.length_map, List.length_take]; omega, .d (encR r), ?_⟩
      rw [take_succ' hr1, List.map_append, List.map_append]; rfl
  · obtain ⟨a3, rfl⟩ := hI
    rw [List.length_map, List.take_length]
    exact wps_reto (by rfl) k
end
section
variable {K : PySem.W.Frag} {C : Addr} {vs : List V} {H : Hp} {Q : VK} {EE : XK}
theorem ln_law_small (h : sp_law_small K C vs H Q EE) : vs.length = 1 := ln_x h fun _ => rfl
theorem ln_law_mapped (h : sp_law_mapped K C vs H Q EE) : vs.length = 2 := ln_x h fun _ => rfl
theorem r_law_small (cf : CF K C) (h : sp_law_small K C vs H Q EE) : t_law_small K C (De Q) (L2.start ["rows", "row", "entry"] vs) H := r_x2 (N := ["rows", "row", "entry"]) h (fun b a hp => w_law_small hp.1 hp.2.1 hp.2.2 fun gs hg => ⟨gs, rfl, hg⟩)
theorem r_law_mapped (cf : CF K C) (h : sp_law_mapped K C vs H Q EE) : t_law_mapped K C (De Q) (L2.start ["rows", "way", "found", "row", "entry"] vs) H := r_x2 (N := ["rows", "way", "found", "row", "entry"]) h (fun b a hp => w_law_mapped hp.1 hp.2.1 hp.2.2.1 hp.2.2.2 rfl)
end
end DL

namespace DL
open PySem PySem.Spec PyProof.Rows L2
section
variable {X : Cx} {K : PySem.W.Frag} {b : Bg} {E : Env'} {ta tb te : TE} {P : Po}
theorem kCatA (h : X.K = K := by rfl) : OpR X (binaryOp .Add) (rCatA K) := h ▸ op_catA
theorem rd_catA {ds es : List D} {Φ : D → Prop} (hz : ds.length + es.length ≤ 100000) (q : Φ (.tup (ds ++ es))) : rd2 K b (rCatA K) (.tup ds) (.tup es) Φ := fun F H v u w d1 d2 Q k => by
  cases d1 with
  | tup s a =>
    cases d2 with
    | tup s2 a2 =>
      refine ⟨_, _, _, _, rfl, rfl, exT w.ex s, exT w.ex s2, by rw [a.len, a2.len]; exact Nat.le_trans hz (by decide), fun z => ?_, fun z1 z2 => ?_, fun z1 z2 p hp => ?_⟩
      · subst z
        have : ds = [] := by cases a; rfl
        subst this
        exact k _ F H _ .refl w (.tup s2 a2) q
      · subst z2
        have : es = [] := by cases a2; rfl
        subst this
        rw [List.append_nil] at q
        exact k _ F H _ .refl w (.tup s a) q
      · obtain ⟨w2, s2⟩ := w.newD (o := .tup _) hp
        exact k _ _ _ _ s2 w2 (.tup (.inl (.inl upd_same)) ((a.app a2).up s2.ex)) q
/-- x, xs = e, [..] where the second is a list of the def's own -/
theorem wps_parL {i j : Nat} (h : wpe K b ta E fun x => wpl K b te E fun ds => P.nx ((E.set i (.d x)).set j (.o ds))) : wps K b (tPar i j (tCons ta (tCons te tNil))) E P := fun F0 H0 F H σ s w e Dn k => by
  refine h H0 F H σ w e _ fun v F1 H1 x s1 w1 d1 p1 => p1 H0 F1 H1 σ w1 (e.step s1) _ fun p vs F2 H2 ds s2 w2 n1 n2 n3 d2 q => ⟨_, _, rfl, ?_⟩
  have s12 := s1.trans s2 w1
  have hp0 : H p = none := s1.fresh w1 n1
  have e2 := (e.step s12).setD (i := i) (d1.up s2.ex)
  refine k.nx _ F2 _ _ s12.ex (s.trans s12 w) w2 (e2.setO (p := p) (s.fresh w hp0) n2 (w1.nb n1) n3 d2 fun j' es hj' ej' z => ?_) q
  rcases set_get ej' with ⟨_, z2⟩ | ⟨hne, z2⟩
  · cases z2
  · rw [List.getElem?_set_ne hne] at z
    obtain ⟨p', us, h1, _, _, _, h5, _⟩ := e.own j' es z2
    rw [h1] at z
    cases z
    rw [hp0] at h5; cases h5
/-- xs[n] op= e, xs a list of ints of the def's own -/
theorem wps_augSL {i j jn : Nat} {n m : Int} {ds : List D} {f : Int → Int → Int} (hi : E[i]? = some (.o ds)) (hj : E[j]? = some (.d (.int n))) (hix : ixN ds.length n = some jn) (hd : ds[jn]? = some (.int m))
    (h : wpe K b te E fun y => ∃ v, y = .int v ∧ P.nx (E.set i (.o (ds.set jn (.int (f m v)))))) : wps K b (tAugS (tVar i) (tVar j) te (rIxL K) (ipI f) rSetL) E P := fun F0 H0 F H σ s w e Dn k => by
  obtain ⟨p, us, h1, h2, h3, h4, h5, h6⟩ := e.own i ds hi
  obtain ⟨vn, g1, g2⟩ := e.dat j _ hj
  cases g2
  obtain ⟨vm, e1, e2⟩ := h6.get hd
  cases e2
  refine ⟨_, h1, _, g1, p, us, n, .int m, rfl, rfl, SqL.of h5, ?_, h H0 F H σ w e _ fun y F' H' yd s' w' dy q => ?_⟩
  · unfold atI
    rw [h6.len, hix]; exact e1
  obtain ⟨v, rfl, q⟩ := q
  cases dy
  refine ⟨m, v, rfl, rfl, p, us, n, jn, rfl, rfl, s'.keep p _ h4 h5, by rw [h6.len]; exact hix, ?_⟩
  have h3' := s'.out p h3 (by rw [h5]; exact fun z => nomatch z)
  exact k.nx σ F' _ _ s'.ex ((s.trans s' w).turn h2) (w'.turn h3' h4) ((e.step s').turn hi h1 ((h6.up s'.ex).set (.int _) jn) h3') q
end
/-! one entry raised -/
theorem wz_set {w e g x : Int} : ∀ {zs : List (Int × Int)} {s : Nat}, zs[s]? = some (e, w) → wz (zs.set s (g, w)) x = wz zs x - (if e ≤ x then w else 0) + (if g ≤ x then w else 0)
  | [], _, h => by simp at h
  | p :: zs, 0, h => by
    have : p = (e, w) := by simpa using h
    subst this
    rw [List.set_cons_zero, wz_cons, wz_cons]
    show (if g ≤ x then w else 0) + _ = (if e ≤ x then w else 0) + _ - _ + _
    omega
  | p :: zs, s + 1, h => by
    rw [List.set_cons_succ, wz_cons, wz_cons, wz_set (by simpa using h)]
    omega
theorem zip_set {g w : Int} : ∀ {es ws : List Int} {s : Nat}, ws[s]? = some w → (es.set s g).zip ws = (es.zip ws).set s (g, w)
  | [], _, _, _ => by simp
  | _ :: _, [], _, h => by simp at h
  | e :: es, v :: ws, 0, h => by
    have : v = w := by simpa using h
    subst this; rfl
  | e :: es, v :: ws, s + 1, h => by
    rw [List.set_cons_succ, List.zip_cons_cons, List.zip_cons_cons, List.set_cons_succ, zip_set (by simpa using h)]
theorem raised {es ws : List Int} {q m m' e g w : Int} {s : Nat} (hw : ∀ w ∈ ws, 0 ≤ w) (h0 : 1 ≤ q) (he : es[s]? = some e) (hwS : ws[s]? = some w) (hg : e ≤ g) (h : isLeast es ws q m) (h' : isLeast (es.set s g) ws q m') :
    m ≤ m' ∧ (m < m' → e ≤ m' ∧ m' ≤ g) ∧ (g = e → m' = m) := by
  have hz : (es.zip ws)[s]? = some (e, w) := by rw [List.getElem?_zip_eq_some]; exact ⟨he, hwS⟩
  have w0 : 0 ≤ w := hw w (List.mem_of_getElem? hwS)
  have K1 := fun x => isLeast_le hw h0 h x
  have K2 := fun x => isLeast_le hw h0 h' x
  have W : ∀ x, wz ((es.set s g).zip ws) x = wz (es.zip ws) x - (if e ≤ x then w else 0) + (if g ≤ x then w else 0) := fun x => by rw [zip_set hwS, wz_set hz]
  have a1 := K1 m; have a2 := K1 m'; have a3 := K1 g
  have b1 := K2 m; have b2 := K2 m'; have b3 := K2 g
  have c1 := W m; have c2 := W m'; have c3 := W g
  refine ⟨?_, fun hlt => ⟨?_, ?_⟩, fun hge => ?_⟩
  · refine a2.mp ?_
    have := b2.mpr (Int.le_refl _)
    rw [c2] at this
    split at this <;> split at this <;> omega
  · refine Int.not_lt.mp fun z => ?_
    have := a1.mpr (Int.le_refl _)
    rw [if_neg (by omega), if_neg (by omega)] at c1
    have := b1.mp (by omega)
    omega
  · refine Int.not_lt.mp fun z => ?_
    rcases Int.le_total m g with hmg | hmg
    · have := a3.mpr hmg
      rw [if_pos hg, if_pos (Int.le_refl _)] at c3
      have := b3.mp (by omega)
      omega
    · have := a1.mpr (Int.le_refl _)
      rw [if_pos (by omega), if_pos (by omega)] at c1
      have := b1.mp (by omega)
      omega
  · subst hge
    have x1 := a1.mpr (Int.le_refl _)
    have x2 := b2.mpr (Int.le_refl _)
    have := b1.mp (by omega)
    have := a2.mp (by omega)
    omega
theorem wz_ge {zs : List (Int × Int)} {p : Int × Int} {x : Int} (hn : ∀ p ∈ zs, 0 ≤ p.2) (hp : p ∈ zs) (hx : p.1 ≤ x) : p.2 ≤ wz zs x := by
  induction zs with
  | nil => cases hp
  | cons z zs ih =>
    have h1 := (wz_bounds (zs := zs) x fun q hq => hn q (List.mem_cons_of_mem _ hq)).1
    have h2 := hn z List.mem_cons_self
    rw [wz_cons]
    rcases List.mem_cons.mp hp with rfl | hp
    · rw [if_pos hx]; omega
    · have := ih (fun q hq => hn q (List.mem_cons_of_mem _ hq)) hp
      split <;> omega
theorem wz_lt {zs : List (Int × Int)} {p : Int × Int} {x : Int} (hn : ∀ p ∈ zs, 0 ≤ p.2) (hp : p ∈ zs) (hx : x < p.1) : wz zs x + p.2 ≤ (zs.map (·.2)).sum := by
  induction zs with
  | nil => cases hp
  | cons z zs ih =>
    have h1 := (wz_bounds (zs := zs) x fun q hq => hn q (List.mem_cons_of_mem _ hq)).2
    have h2 := hn z List.mem_cons_self
    rw [wz_cons, List.map_cons, List.sum_cons]
    rcases List.mem_cons.mp hp with rfl | hp
    · rw [if_neg (by omega)]; omega
    · have := ih (fun q hq => hn q (List.mem_cons_of_mem _ hq)) hp
      split <;> omega
theorem pair_in {es ws : List Int} {e : Int} (hl : es.length = ws.length) (he : e ∈ es) : ∃ w, (e, w) ∈ es.zip ws ∧ w ∈ ws := by
  obtain ⟨j, hj⟩ := List.mem_iff_getElem?.mp he
  have hjl : j < es.length := (List.getElem?_eq_some_iff.mp hj).1
  have hjw : j < ws.length := by omega
  have e2 : ws[j]? = some ws[j] := List.getElem?_eq_getElem hjw
  exact ⟨ws[j], List.mem_of_getElem? (by rw [List.getElem?_zip_eq_some]; exact ⟨hj, e2⟩), List.getElem_mem _⟩
theorem least_min {es ws : List Int} {m : Int} (hl : es.length = ws.length) (hw : ∀ w ∈ ws, 1 ≤ w) (h : isLeast es ws 1 m) : ∀ e ∈ es, m ≤ e := fun e he => by
  obtain ⟨w, h1, h2⟩ := pair_in hl he
  have := wz_ge (x := e) (fun p hp => by have := hw _ (List.of_mem_zip hp).2; omega) h1 (Int.le_refl _)
  have := hw w h2
  exact h.2.2 e he (by show 1 ≤ _; omega)
theorem least_max {es ws : List Int} {m : Int} (hl : es.length = ws.length) (hw : ∀ w ∈ ws, 1 ≤ w) (h : isLeast es ws ws.sum m) : ∀ e ∈ es, e ≤ m := fun e he => by
  obtain ⟨w, h1, h2⟩ := pair_in hl he
  refine Int.not_lt.mp fun z => ?_
  have := wz_lt (x := m) (fun p hp => by have := hw _ (List.of_mem_zip hp).2; omega) h1 z
  rw [zip_sum hl] at this
  have := hw w h2
  have := h.2.1
  omega
theorem alone {es ws : List Int} {q m e w : Int} {s : Nat} (hl : es.length = ws.length) (hw : ∀ w ∈ ws, 0 ≤ w) (h0 : 1 ≤ q) (he : es[s]? = some e) (hwS : ws[s]? = some w) (h : isLeast es ws q m) (h1 : q ≤ w) (h2 : ws.sum - q < w) : m = e := by
  have hz : (e, w) ∈ es.zip ws := List.mem_of_getElem? (i := s) (by rw [List.getElem?_zip_eq_some]; exact ⟨he, hwS⟩)
  have nn : ∀ p ∈ es.zip ws, 0 ≤ p.2 := fun p hp => hw _ (List.of_mem_zip hp).2
  have a := wz_ge (x := e) nn hz (Int.le_refl _)
  have a1 := (isLeast_le hw h0 h e).mp (by show q ≤ _; omega)
  refine Int.le_antisymm a1 (Int.not_lt.mp fun z => ?_)
  have b := wz_lt (x := m) nn hz z
  rw [zip_sum hl] at b
  have := h.2.1
  omega
abbrev sp_law_raised (K : PySem.W.Frag) (_ : Addr) : Sp := Sx K (fun r : List Int => [.bag, encR r]) (fun b r => b.isSome = true ∧ r.length ≤ 6 ∧ ∀ v ∈ r, v.natAbs ≤ 10 ^ 18) fun r x => ∃ g, x = encR g ∧ g.length = r.length ∧ ∀ (j : Nat) u v, r[j]? = some u → g[j]? = some v → u ≤ v ∧ v ≤ 10 ^ 18
abbrev sp_law_row_raised (K : PySem.W.Frag) (C : Addr) : Sp := Sx K (fun a : (List Int × List Int) × List (List Int) × List Int => [.bag, dC C a.1.1 a.1.2, dRs a.2.1, encR a.2.2]) (fun b a => b.isSome = true ∧ okQ a.1.1 a.1.2 ∧ okR a.1.1.length a.1.2.length a.2.1 ∧ isMade a.1.1 a.1.2 a.2.1 a.2.2) fun _ x => x = .bl true
abbrev sp_law_quota_raised (K : PySem.W.Frag) (_ : Addr) : Sp := Sx K (fun a : (List Int × List Int) × List (List Int) × List Int => [.bag, dPt a.1, dRs a.2.1, encR a.2.2]) (fun b a => b.isSome = true ∧ okQ a.1.1 a.1.2 ∧ okR a.1.1.length a.1.2.length a.2.1 ∧ isMade a.1.1 a.1.2 a.2.1 a.2.2) fun _ x => x = .bl true
abbrev sp_law_ends (K : PySem.W.Frag) (_ : Addr) : Sp := Sx K (fun a : List Int × Nat × List (List Int) => [dI a.1, .int (a.2.1 : Nat), dRs a.2.2]) (fun _ a => (2 ≤ a.1.length ∧ a.1.length ≤ 7) ∧ (∀ x ∈ a.1, 1 ≤ x ∧ x ≤ 1000000) ∧ 1 ≤ a.2.1 ∧ a.2.1 ≤ 6 ∧ okR a.1.length a.2.1 a.2.2) fun _ x => x = .bl true
end DL

namespace DL
open PySem PySem.Spec PyProof.Rows L2
/-! lists of numbers: equal, alike, sorted -/
theorem eqi (a c : Int) : D.eq (.int a) (.int c) = decide (a = c) := by
  unfold D.eq D.py
  show (a == c) = _
  rfl
theorem eqA_ints : ∀ (xs ys : List Int), PyData.eqvAll (D.pyA (xs.map D.int)) (D.pyA (ys.map D.int)) = decide (xs = ys)
  | [], [] => by simp [D.pyA, PyData.eqvAll]
  | [], _ :: _ => by simp [D.pyA, PyData.eqvAll]
  | _ :: _, [] => by simp [D.pyA, PyData.eqvAll]
  | x :: xs, y :: ys => by
    have ih := eqA_ints xs ys
    have e1 : PyData.eqv (D.py (.int x)) (D.py (.int y)) = decide (x = y) := eqi x y
    show PyData.eqvAll (D.py (.int x) :: D.pyA (xs.map D.int)) (D.py (.int y) :: D.pyA (ys.map D.int)) = _
    rw [PyData.eqvAll, ih, e1]
    by_cases h1 : x = y <;> by_cases h2 : xs = ys <;> simp [h1, h2]
theorem eqL (xs ys : List Int) : D.eq (dI xs) (dI ys) = decide (xs = ys) := by
  have e : D.eq (dI xs) (dI ys) = PyData.eqvAll (D.pyA (xs.map D.int)) (D.pyA (ys.map D.int)) := by
    unfold D.eq dI
    show PyData.eqv (.list (D.pyA (xs.map D.int))) (.list (D.pyA (ys.map D.int))) = _
    rw [PyData.eqv]
  rw [e, eqA_ints]
theorem eqT (xs ys : List Int) : D.eq (encR xs) (encR ys) = decide (xs = ys) := by
  have e : D.eq (encR xs) (encR ys) = PyData.eqvAll (D.pyA (xs.map D.int)) (D.pyA (ys.map D.int)) := by
    unfold D.eq encR
    show PyData.eqv (.tuple (D.pyA (xs.map D.int))) (.tuple (D.pyA (ys.map D.int))) = _
    rw [PyData.eqv]
  rw [e, eqA_ints]
theorem alikeL : ∀ (xs ys : List Int), PySem.W.alikeAll (D.pyA (xs.map D.int)) (D.pyA (ys.map D.int)) = true
  | [], _ => by simp [D.pyA, PySem.W.alikeAll]
  | _ :: _, [] => by simp [D.pyA, PySem.W.alikeAll]
  | x :: xs, y :: ys => by
    show PySem.W.alikeAll (D.py (.int x) :: D.pyA (xs.map D.int)) (D.py (.int y) :: D.pyA (ys.map D.int)) = _
    rw [PySem.W.alikeAll, alikeL xs ys]; rfl
theorem allAlikeL (gs : List (List Int)) : PySem.W.AllAlike ((gs.map dI).map D.py) := by
  rw [List.map_map]
  refine PySem.W.AllAlike.of (enc := D.py ∘ dI) fun p q => ?_
  show PySem.W.alike (.list (D.pyA (p.map D.int))) (.list (D.pyA (q.map D.int))) = true
  rw [PySem.W.alike]; exact alikeL p q
theorem sortableL (gs : List (List Int)) : PySem.W.Sortable ((gs.map dI).map D.py) := by
  rw [List.map_map]
  exact PySem.W.Sortable.others (enc := D.py ∘ dI) fun q => ⟨fun z => PyData.noConfusion (show PyData.list _ = PyData.none from z), fun xs z => PyData.noConfusion (show PyData.list _ = PyData.tuple _ from z)⟩
def leI (x y : List Int) : Bool := leD (dI x) (dI y)
theorem okL (gs : List (List Int)) : D.okA 8 (gs.map dI) = true := okA_of fun d hd => by
  obtain ⟨g, _, rfl⟩ := List.mem_map.mp hd
  exact dI_ok 7 g
theorem sort_dI (gs : List (List Int)) : (gs.map dI).mergeSort leD = (gs.mergeSort leI).map dI :=
  (PySem.W.sort_maps (r := leI) (s := leD) dI (l := gs) (fun _ _ _ _ => rfl)).symm
theorem sortL_dI (gs : List (List Int)) : sortL (gs.map fun g => g.map D.int) = (gs.mergeSort leI).map fun g => g.map D.int :=
  (PySem.W.sort_maps (r := leI) (s := fun x y => leD (.lst x) (.lst y)) (fun g : List Int => g.map D.int) (l := gs) (fun _ _ _ _ => rfl)).symm
section
variable {K : PySem.W.Frag} {b : Bg} {E : Env'} {ta te : TE} {P : Po}
theorem wps_parLo {i j : Nat} (h : wpl K b ta E fun ds => wpe K b te E fun x => P.nx ((E.set i (.o ds)).set j (.d x))) : wps K b (tPar i j (tCons ta (tCons te tNil))) E P := fun F0 H0 F H σ s w e Dn k => by
  refine h H0 F H σ w e _ fun p vs F1 H1 ds s1 w1 n1 n2 n3 d2 q => q H0 F1 H1 σ w1 (e.step s1) _ fun v F2 H2 x s2 w2 d1 p1 => ⟨_, _, rfl, ?_⟩
  have s12 := s1.trans s2 w1
  have nb := w.nb n1
  have h2 : H2 p = some (.lst vs) := s2.keep p _ nb n3
  have f2 : F2 p = none := s2.out p n2 (by rw [n3]; exact fun z => nomatch z)
  have e2 := (e.step s12).setO (i := i) (p := p) (s.fresh w n1) f2 nb h2 (d2.up s2.ex) fun j' es hj' ej' z => by
    obtain ⟨p', us, h1, _, _, _, h5, _⟩ := e.own j' es ej'
    rw [h1] at z
    cases z
    rw [n1] at h5; cases h5
  exact k.nx _ F2 _ _ s12.ex (s.trans s12 w) w2 (e2.setD (i := j) d1) p1
end
/-! len and == of councils -/
abbrev sp_C_len (K : PySem.W.Frag) (C : Addr) : Sp := Sx K (fun a : List Int × List Int => [dC C a.1 a.2]) (fun _ _ => True) fun a x => x = .int (a.1.length : Nat)
abbrev sp_C_eq (K : PySem.W.Frag) (C : Addr) : Sp := Sx K (fun a : (List Int × List Int) × (List Int × List Int) => [dC C a.1.1 a.1.2, dC C a.2.1 a.2.2]) (fun _ _ => True) fun a x => x = .bl (decide (a.1 = a.2))
section
variable {K : PySem.W.Frag} {C : Addr} {b : Bg} {P : Po}
def t_C_eq (K : PySem.W.Frag) (C : Addr) : TS :=
  (tRet (tAndV (tCB (rIsi K) (tCons (tVar 1) (tCons (tC (.ref C)) tNil))) (tAndV (tOp (rEqD K) (tFld K (tVar 0) "_weights") (tFld K (tVar 1) "_weights")) (tOp (rEqD K) (tFld K (tVar 0) "_quotas") (tFld K (tVar 1) "_quotas")))))
def t_C_len (K : PySem.W.Frag) (C : Addr) : TS :=
  (tRet (tCB (DL.rLen K) (tCons (tFld K (tVar 0) "_weights") tNil)))
theorem w_C_len (c : CF K C) {ws qs : List Int} (k : P.rt (.int (ws.length : Nat))) : wps K b (t_C_len K C) [.d (dC C ws qs)] P := by
  unfold t_C_len
  refine wps_ret (wpe_cb (wpa_cons (wpe_fld c.cl c.nW (wpe_var (by rfl) ⟨_, _, _, rfl, look_w (C := C), wpa_nil (rc_lenL ?_)⟩))))
  rw [List.length_map]; exact k
theorem w_C_eq (c : CF K C) (ic : InsC K C) {a : (List Int × List Int) × (List Int × List Int)} (k : P.rt (.bl (decide (a.1 = a.2)))) : wps K b (t_C_eq K C) [.d (dC C a.1.1 a.1.2), .d (dC C a.2.1 a.2.2)] P := by
  obtain ⟨⟨w1, q1⟩, ⟨w2, q2⟩⟩ := a
  unfold t_C_eq
  refine wps_ret (wpe_and (wpe_isiC ic (wpe_var (by rfl) ⟨_, _, rfl, true, rfl, ifT ?_⟩)))
  refine wpe_and (wpe_op (wpe_fld c.cl c.nW (wpe_var (by rfl) ⟨_, _, _, rfl, look_w (C := C), wpe_fld c.cl c.nW (wpe_var (by rfl) ⟨_, _, _, rfl, look_w (C := C), rd_eqD 9 (by decide) (dI_ok 8 w1) (dI_ok 8 w2) ⟨_, rfl, ?_⟩⟩)⟩)))
  have e1 : D.eq (.lst (w1.map D.int)) (.lst (w2.map D.int)) = decide (w1 = w2) := eqL w1 w2
  have e2 : D.eq (.lst (q1.map D.int)) (.lst (q2.map D.int)) = decide (q1 = q2) := eqL q1 q2
  rw [e1]
  refine ifB (fun z => ?_) (fun z => ?_)
  · refine wpe_op (wpe_fld c.cl c.nQ (wpe_var (by rfl) ⟨_, _, _, rfl, look_q (C := C), wpe_fld c.cl c.nQ (wpe_var (by rfl) ⟨_, _, _, rfl, look_q (C := C), rd_eqD 9 (by decide) (dI_ok 8 q1) (dI_ok 8 q2) ?_⟩)⟩))
    rw [e2]
    have z' := of_decide_eq_true z
    subst z'
    rw [show decide (q1 = q2) = decide ((w1, q1) = (w1, q2)) from by simp]
    exact k
  · have z' := of_decide_eq_false z
    rw [show decide (((w1, q1), w2, q2).1 = ((w1, q1), w2, q2).2) = false from decide_eq_false (fun y => z' (congrArg Prod.fst y))] at k
    exact k
variable {vs : List V} {H : Hp} {Q : VK} {EE : XK}
theorem ln_C_len (h : sp_C_len K C vs H Q EE) : vs.length = 1 := ln_x h fun _ => rfl
theorem ln_C_eq (h : sp_C_eq K C vs H Q EE) : vs.length = 2 := ln_x h fun _ => rfl
theorem r_C_len (cf : CF K C) (h : sp_C_len K C vs H Q EE) : t_C_len K C (De Q) (L2.start ["self"] vs) H := r_x2 (N := ["self"]) h (fun b a hp => w_C_len cf rfl)
theorem r_C_eq (cf : CF K C) (ic : InsC K C) (h : sp_C_eq K C vs H Q EE) : t_C_eq K C (De Q) (L2.start ["self", "other"] vs) H := r_x2 (N := ["self", "other"]) h (fun b a hp => w_C_eq cf ic rfl)
end
end DL

namespace DL
open PySem PySem.Spec PyProof.Rows L2
/-! groups of seats, by masks -/
def seatsM (n m : Nat) : List Int := ((List.range n).filter fun j => m.testBit j).map fun j => ((j : Nat) : Int)
def groupsM (n : Nat) : List (List Int) := (List.range (2 ^ n)).map (seatsM n)
def groups (n : Nat) : List (List Int) := (groupsM n).mergeSort leI
theorem filt_snoc {α : Type} (p : Nat → Bool) (f : Nat → α) (n : Nat) : ((List.range (n + 1)).filter p).map f = ((List.range n).filter p).map f ++ (if p n = true then [f n] else []) := by
  rw [List.range_succ, List.filter_append, List.map_append]
  cases h : p n <;> simp [h]
theorem seatsM_low {n m : Nat} (h : m < 2 ^ n) : seatsM (n + 1) m = seatsM n m := by
  unfold seatsM
  rw [filt_snoc, Nat.testBit_lt_two_pow h]; simp
theorem seatsM_high {n m : Nat} (h : m < 2 ^ n) : seatsM (n + 1) (2 ^ n + m) = seatsM n m ++ [((n : Nat) : Int)] := by
  unfold seatsM
  rw [filt_snoc, Nat.testBit_two_pow_add_eq, Nat.testBit_lt_two_pow h]
  have e : (List.range n).filter (fun j => (2 ^ n + m).testBit j) = (List.range n).filter (fun j => m.testBit j) := List.filter_congr fun j hj => by
    rw [Nat.testBit_two_pow_add_gt (List.mem_range.mp hj)]
  rw [e]; simp
theorem groupsM_succ (n : Nat) : groupsM (n + 1) = groupsM n ++ (groupsM n).map fun g => g ++ [((n : Nat) : Int)] := by
  unfold groupsM
  rw [Nat.pow_succ, Nat.mul_two, List.range_add, List.map_append, List.map_map, List.map_map]
  congr 1
  · exact List.map_congr_left fun m hm => seatsM_low (List.mem_range.mp hm)
  · exact List.map_congr_left fun m hm => seatsM_high (List.mem_range.mp hm)
theorem groupsM_len (n : Nat) : (groupsM n).length = 2 ^ n := by unfold groupsM; rw [List.length_map, List.length_range]
theorem groups_len (n : Nat) : (groups n).length = 2 ^ n := by unfold groups; rw [List.length_mergeSort, groupsM_len]
theorem groups_mem {n : Nat} {g : List Int} : g ∈ groups n ↔ g ∈ groupsM n := List.mem_mergeSort
theorem filt_in (p : Nat → Bool) : ∀ n : Nat, ((List.range n).filter p).map (fun j => ((j : Nat) : Int)) ∈ groupsM n
  | 0 => by simp [groupsM, seatsM]
  | n + 1 => by
    have ih := filt_in p n
    rw [groupsM_succ, filt_snoc]
    cases h : p n with
    | true => exact List.mem_append_right _ (List.mem_map.mpr ⟨_, ih, by simp⟩)
    | false => refine List.mem_append_left _ ?_; simpa using ih
theorem groups_of {n : Nat} {g : List Int} (h : g ∈ groups n) : ∃ m, g = seatsM n m := by
  obtain ⟨m, _, rfl⟩ := List.mem_map.mp (groups_mem.mp h)
  exact ⟨m, rfl⟩
theorem seatsM_lt {n m : Nat} {s : Int} (h : s ∈ seatsM n m) : 0 ≤ s ∧ s < n := by
  obtain ⟨j, hj, rfl⟩ := List.mem_map.mp h
  have := List.mem_range.mp (List.mem_filter.mp hj).1
  omega
theorem seatsM_length (n m : Nat) : (seatsM n m).length ≤ n := by
  unfold seatsM
  rw [List.length_map]
  have := List.length_filter_le (fun j => m.testBit j) (List.range n)
  rw [List.length_range] at this; exact this
theorem seatsM_mem {n m j : Nat} (hj : j < n) : ((j : Nat) : Int) ∈ seatsM n m ↔ m.testBit j = true := by
  constructor
  · intro h
    obtain ⟨i, hi, e⟩ := List.mem_map.mp h
    have : i = j := by omega
    subst this
    exact (List.mem_filter.mp hi).2
  · intro h
    exact List.mem_map.mpr ⟨j, List.mem_filter.mpr ⟨List.mem_range.mpr hj, h⟩, rfl⟩
/-! which groups decide -/
def gsum (ws : List Int) (g : List Int) : Int := (g.map fun s => rget ws s).sum
def has (p : List Int × List Int) (c : Nat) (g : List Int) : Bool := decide (rget p.2 (c : Nat) ≤ gsum p.1 g)
def due1 (p q : List Int × List Int) (c : Nat) : Op := ((groups p.1.length).find? fun g => has p c g != has q c g).map fun g => (((c : Nat) : Int), g)
def dueOf (p q : List Int × List Int) : Op := (List.range p.2.length).findSome? (due1 p q)
theorem due1_comm {p q : List Int × List Int} (h1 : p.1.length = q.1.length) (c : Nat) : due1 p q c = due1 q p c := by
  unfold due1
  rw [h1]
  congr 2
  funext g
  cases has p c g <;> cases has q c g <;> rfl
theorem dueOf_comm {p q : List Int × List Int} (h1 : p.1.length = q.1.length) (h2 : p.2.length = q.2.length) : dueOf p q = dueOf q p := by
  unfold dueOf
  rw [h2]
  congr 1
  funext c
  exact due1_comm h1 c
theorem some_at {α : Type} {f : Nat → Option α} {x : α} {i : Nat} (h0 : (List.range i).findSome? f = none) (h1 : f i = some x) : ∀ {w : Nat}, i < w → (List.range w).findSome? f = some x
  | 0, h => absurd h (Nat.not_lt_zero _)
  | w + 1, h => by
    rw [List.range_succ, List.findSome?_append]
    by_cases hw : i < w
    · rw [some_at h0 h1 hw]; rfl
    · have : i = w := by omega
      subst this
      rw [h0]
      simp [h1]
theorem none_at {α : Type} {f : Nat → Option α} {i : Nat} (h0 : (List.range i).findSome? f = none) (h1 : f i = none) : (List.range (i + 1)).findSome? f = none := by
  rw [List.range_succ, List.findSome?_append, h0]
  simp [h1]
theorem find_at {α : Type} {l : List α} {f : α → Bool} {i : Nat} {x : α} (h0 : (l.take i).find? f = none) (h : l[i]? = some x) (h1 : f x = true) : l.find? f = some x := by
  have hi := (List.getElem?_eq_some_iff.mp h).1
  have e : l = l.take i ++ x :: l.drop (i + 1) := by
    have e1 := (List.take_append_drop i l).symm
    rw [List.drop_eq_getElem_cons hi] at e1
    have e2 : l[i] = x := (List.getElem?_eq_some_iff.mp h).2
    rw [e2] at e1
    exact e1
  rw [e, List.find?_append, h0]
  simp [h1]
theorem find_no {α : Type} {l : List α} {f : α → Bool} {i : Nat} {x : α} (h0 : (l.take i).find? f = none) (h : l[i]? = some x) (h1 : f x = false) : (l.take (i + 1)).find? f = none := by
  rw [take_succ' h, List.find?_append, h0]
  simp [h1]
/-! a session of two kinds of rows -/
def splitR (n w : Nat) (g : List Int) : List (List Int) := (List.range n).map fun j => List.replicate w (if ((j : Nat) : Int) ∈ g then 0 else 1)
theorem zeros {ws : List Int} {m : Nat} : ∀ n : Nat, n ≤ ws.length → wz (((List.range n).map fun j => if m.testBit j = true then (0 : Int) else 1).zip (ws.take n)) 0 = gsum ws (seatsM n m) := fun n => by
  induction n with
  | zero => intro _; rfl
  | succ n ih =>
    intro h
    have hn : n < ws.length := by omega
    have e1 : ws[n]? = some (rget ws (n : Nat)) := by unfold rget; rw [Int.toNat_natCast, List.getD, List.getElem?_eq_getElem hn]; rfl
    rw [List.range_succ, List.map_append, take_succ' e1, List.zip_append (by simp; omega), wz_append, ih (by omega)]
    unfold seatsM gsum
    rw [filt_snoc, List.map_append, List.sum_append]
    congr 1
    cases hb : m.testBit n <;> simp [wz, hb, rget]
theorem splitAt {ws qs r : List Int} {m : Nat} (h : isMade ws qs (splitR ws.length qs.length (seatsM ws.length m)) r) (hw : ∀ x ∈ ws, 1 ≤ x) {c : Nat} (hc : c < qs.length) (hq : 1 ≤ rget qs (c : Nat)) :
    rget r (c : Nat) = if has (ws, qs) c (seatsM ws.length m) = true then 0 else 1 := by
  have hr : c < r.length := by rw [h.1]; exact hc
  have e1 : qs[c]? = some (rget qs (c : Nat)) := by unfold rget; rw [Int.toNat_natCast, List.getD, List.getElem?_eq_getElem hc]; rfl
  have e2 : r[c]? = some (rget r (c : Nat)) := by unfold rget; rw [Int.toNat_natCast, List.getD, List.getElem?_eq_getElem hr]; rfl
  have L := h.2 c _ _ e1 e2
  have ee : (splitR ws.length qs.length (seatsM ws.length m)).map (fun r => rget r (c : Nat)) = (List.range ws.length).map fun j => if m.testBit j = true then (0 : Int) else 1 := by
    unfold splitR
    rw [List.map_map]
    refine List.map_congr_left fun j hj => ?_
    have hj' := List.mem_range.mp hj
    show rget (List.replicate qs.length (if ((j : Nat) : Int) ∈ seatsM ws.length m then (0 : Int) else 1)) (c : Nat) = _
    unfold rget
    rw [Int.toNat_natCast, List.getD, List.getElem?_replicate, if_pos hc]
    by_cases hb : m.testBit j = true
    · rw [if_pos hb, if_pos ((seatsM_mem hj').mpr hb)]; rfl
    · rw [if_neg hb, if_neg (fun z => hb ((seatsM_mem hj').mp z))]; rfl
  rw [ee] at L
  obtain ⟨hm, hq1, hl⟩ := L
  have hz := zeros (ws := ws) (m := m) ws.length (Nat.le_refl _)
  rw [List.take_length] at hz
  obtain ⟨j, hj, hv⟩ := List.mem_map.mp hm
  have hsum : has (ws, qs) c (seatsM ws.length m) = decide (rget qs (c : Nat) ≤ gsum ws (seatsM ws.length m)) := rfl
  rw [hsum]
  by_cases hb : m.testBit j = true
  · rw [if_pos hb] at hv
    rw [← hv] at hq1 ⊢
    rw [hz] at hq1
    rw [if_pos (decide_eq_true hq1)]
  · rw [if_neg hb] at hv
    rw [← hv] at hl ⊢
    by_cases hh : rget qs (c : Nat) ≤ gsum ws (seatsM ws.length m)
    · exfalso
      have hne : seatsM ws.length m ≠ [] := fun z => by rw [z] at hh; simp [gsum] at hh; omega
      obtain ⟨s, t, e⟩ := List.exists_cons_of_ne_nil hne
      have hs : s ∈ seatsM ws.length m := by rw [e]; exact List.mem_cons_self
      obtain ⟨i, hi, rfl⟩ := List.mem_map.mp hs
      have h0 : (0 : Int) ∈ (List.range ws.length).map fun j => if m.testBit j = true then (0 : Int) else 1 := List.mem_map.mpr ⟨i, (List.mem_filter.mp hi).1, by rw [if_pos (List.mem_filter.mp hi).2]⟩
      have := hl 0 h0 (by rw [hz]; exact hh)
      omega
    · rw [if_neg (by rw [decide_eq_false hh]; simp)]
end DL

namespace GL
open PySem PySem.Spec PyProof.Rows L2 DL
section
variable {X : Cx} {K : PySem.W.Frag}
/-! f-strings with lists, texts -/
def tFmtD (K : PySem.W.Frag) (te : TE) : TE := fun σ H Q => te σ H fun x H1 => ∃ (d : PyData) (a : Addr), x = .ref a ∧ Dp K H1 x d ∧ d.showable = true ∧ d.hasDict = false ∧ d.depth ≤ 60 ∧ d.shown.length ≤ sizeLine ∧ Q (.str d.shown) H1
theorem pe_fmtD {e : Expr} {te : TE} {pos : Pos} (hg : X.A.guards = some []) (hu : X.A.units + 100 < cLine) (he : PE X e te) (h : X.K = K := by rfl) : PE X (.FormattedValue e (-1) none pos) (tFmtD K te) := by
  subst h
  refine ⟨fun pins s σ H Q I h => ?_⟩
  refine wpAny_FormattedValue_plain (thn (he.run pins s σ H _ I h) fun v s1 hv => ?_)
  obtain ⟨x, H1, I1, r1, d, a, rfl, hd, h1, h2, h3, h4, q⟩ := hv
  obtain ⟨as, rd⟩ := Dp.reads I1 d (.ref a) v hd r1
  cases (show v = Value.ref a from r1)
  exact formatField_of_reads rd h1 (PyData.noDict_hsm h2) hg (by omega) (fun _ _ z => z) (fun h' t tk hk => ⟨.str _, H1, I1.kept (t' := tk) hk, ⟨_, rfl⟩, q⟩) h4
def tJoin (ts : List TE) : TE := fun σ H Q => tJs ts Str.empty σ H fun out H1 => Q (.str out) H1
def rAddS : R2 := fun x y H Q => ∃ i j, x = .str i ∧ y = .str j ∧ i.length + j.length ≤ sizeLine ∧ Q (.str (i ++ j)) H
theorem op_addS : OpR X (binaryOp .Add) rAddS := op_add_str
end
end GL
namespace DL
open PySem PySem.Spec PyProof.Rows L2
section
variable {K : PySem.W.Frag} {b : Bg} {E : Env'} {ta te : TE} {t u : TS} {P : Po} {Φ : D → Prop} {F H F' H' : Hp}
def wpj (K : PySem.W.Frag) (b : Bg) (ts : List TE) (acc : Str) (E : Env') (Φ : Str → Prop) : Prop := ∀ H0 F H σ, Wd K b F H → EnvD K b H0 F H σ E →
  ∀ Q : Str → Hp → Prop, (∀ out F' H', Step b F H F' H' → Wd K b F' H' → Φ out → Q out H') → tJs ts acc σ H Q
theorem wpj_nil {acc : Str} {Φ : Str → Prop} (q : Φ acc) : wpj K b [] acc E Φ := fun H0 F H σ w e Q k => k acc F H .refl w q
theorem wpj_cons {t : TE} {ts : List TE} {acc : Str} {Φ : Str → Prop} (h : wpe K b t E fun x => ∃ y, x = .str y ∧ (acc ++ y).length ≤ sizeLine ∧ wpj K b ts (acc ++ y) E Φ) : wpj K b (t :: ts) acc E Φ := fun H0 F H σ w e Q k =>
  h H0 F H σ w e _ fun v F1 H1 x s1 w1 d1 p1 => by
    obtain ⟨y, rfl, hl, q⟩ := p1
    cases d1
    exact ⟨y, rfl, hl, q H0 F1 H1 σ w1 (e.step s1) _ fun out F' H' s w' p => k out F' H' (s1.trans s w1) w' p⟩
theorem wpe_join {ts : List TE} (h : wpj K b ts Str.empty E fun out => Φ (.str out)) : wpe K b (GL.tJoin ts) E Φ := fun H0 F H σ w e Q k =>
  h H0 F H σ w e _ fun out F' H' s w' p => k _ F' H' _ s w' (.str out) p
theorem wpe_fmtD (n : Nat) (hn : n ≤ 60) (h : wpe K b te E fun x => ∃ ds, x = .lst ds ∧ D.ok n x = true ∧ D.sm x = true ∧ x.cost ≤ 10000000 ∧ Φ (.str x.py.shown)) : wpe K b (GL.tFmtD K te) E Φ := fun H0 F H σ w e Q k =>
  h H0 F H σ w e _ fun v F1 H1 x s1 w1 d1 p1 => by
    obtain ⟨ds, rfl, h1, h2, h3, q⟩ := p1
    obtain ⟨_, a2, a3⟩ := ok_lay n _ h1
    obtain ⟨c1, c2⟩ := shown_cost n _ h1 h2
    have dp := dpUp w1.ex _ _ (Dv.dp n _ v h1 d1)
    cases d1 with
    | lst s a =>
      refine ⟨(D.lst ds).py, _, rfl, dp, c2, a3, by omega, ?_, k _ F1 H1 _ s1 w1 (.str _) q⟩
      exact Nat.le_trans c1 (Nat.le_trans h3 (by decide))
theorem rd_addS {x y : Str} (hz : x.length + y.length ≤ sizeLine) (q : Φ (.str (x ++ y))) : rd2 K b GL.rAddS (.str x) (.str y) Φ := fun F H v u w d1 d2 Q kk => by
  cases d1; cases d2
  exact ⟨x, y, rfl, rfl, hz, kk _ F H _ .refl w (.str _) q⟩
theorem rd_neS {x y : Str} (q : Φ (.bl (!decide (V.str x = V.str y)))) : rd2 K b rNe (.str x) (.str y) Φ := fun F H v u w d1 d2 Q kk => by
  cases d1; cases d2
  exact ⟨rfl, kk _ F H _ .refl w (.bl _) q⟩
end
end DL

namespace DL
open PySem PySem.Spec PyProof.Rows L2
section
variable {K : PySem.W.Frag} {b : Bg} {E : Env'} {ta tb te tl : TE} {t u : TS} {P : Po} {Φ : D → Prop} {F H F' H' : Hp}
/-! a thing that is the def's own, held in a slot -/
structure Hold (K : PySem.W.Frag) (b : Bg) (d : D) (R : Hp → Hp → Hp → V → Prop) : Prop where
  step : ∀ {F H F' H' G v}, R F H G v → Step b F H F' H' → R F' H' G v
  old : ∀ {F H G G' v}, R F H G v → (∀ a, G a = none → G' a = none) → R F H G' v
  lend : ∀ {F H G v}, R F H G v → ∃ S : Addr → Prop, (∀ a, S a → F a = none) ∧ (∀ a, S a → ∀ c, b ≠ some (a, c)) ∧ ∀ G', Ex F G' → (∀ a, S a → G' a = H a) → Dv K b G' v d
def wpsR (K : PySem.W.Frag) (b : Bg) (i : Nat) (R : Hp → Hp → Hp → V → Prop) (t : TS) (E : Env') (P : Po) : Prop := ∀ F0 H0 F H σ v, Step b F0 H0 F H → Wd K b F H → EnvD K b H0 F H σ E → σ[i]? = some (some v) → R F H H0 v →
  ∀ Dn : Ends, Ok K b F0 H0 F P Dn → t Dn σ H
theorem wpsR_if {i : Nat} {R : Hp → Hp → Hp → V → Prop} {d : D} {c : TT} {t1 : TS} (hd : Hold K b d R) (ho : ∀ (j : Nat) (ds : List D), E[j]? ≠ some (.o ds)) (h : wpt K b c (E.set i (.d d)) fun r => r = false ∧ wpsR K b i R u E P) : wpsR K b i R (tSeq (tIfS c t1 tNext) u) E P := fun F0 H0 F H σ v s w e hs N Dn k => by
  obtain ⟨S, h1, h2, h3⟩ := hd.lend N
  obtain ⟨G, w1, e1, back⟩ := lendS (d := d) w e ho h1 h2 hs h3
  refine h H0 G H σ w1 e1 _ fun r G' H' s' w' q => ?_
  obtain ⟨rfl, q⟩ := q
  obtain ⟨F', s2, w2⟩ := back G' H' s' w'
  refine (if_neg Bool.false_ne_true : (if false = true then _ else _) = _).symm ▸ ?_
  exact q F0 H0 F' H' σ v (s.trans s2 w) w2 (e.step s2) hs (hd.step N s2) Dn (k.up s2.ex)
theorem wpsR_asg {i j : Nat} {R : Hp → Hp → Hp → V → Prop} {d : D} (hd : Hold K b d R) (hij : j ≠ i) (h : wpe K b te E fun x => wpsR K b i R u (E.set j (.d x)) P) : wpsR K b i R (tSeq (tAsg te (gName j)) u) E P := fun F0 H0 F H σ v s w e hs N Dn k =>
  h H0 F H σ w e _ fun x F1 H1 xd s1 w1 d1 q => q F0 H0 F1 H1 _ v (s.trans s1 w) w1 ((e.step s1).setD d1) (by rw [List.getElem?_set_ne hij]; exact hs) (hd.step N s1) Dn (k.up s1.ex)
theorem wpsR_drop {i : Nat} {R : Hp → Hp → Hp → V → Prop} {d : D} (hd : Hold K b d R) (h : wpe K b te E fun _ => wpsR K b i R u E P) : wpsR K b i R (tSeq (tDrop te) u) E P := fun F0 H0 F H σ v s w e hs N Dn k =>
  h H0 F H σ w e _ fun x F1 H1 xd s1 w1 d1 q => q F0 H0 F1 H1 _ v (s.trans s1 w) w1 (e.step s1) hs (hd.step N s1) Dn (k.up s1.ex)
theorem wpsR_end {i : Nat} {R : Hp → Hp → Hp → V → Prop} (h : wps K b u E P) : wpsR K b i R u E P := fun F0 H0 F H σ v s w e hs N Dn k => h F0 H0 F H σ s w e Dn k
theorem _root_.DL.EnvD.setV {H0 F H : Hp} {σ : L2.St} {E : Env'} {i : Nat} {v : V} (e : EnvD K b H0 F H σ E) : EnvD K b H0 F H (σ.set i (some v)) (E.set i .u) := by
  refine ⟨by rw [List.length_set, List.length_set]; exact e.len, fun j x h => ?_, fun j ds h => ?_, fun j k ds es r h1 h2 h3 h4 => ?_⟩
  · rcases set_get h with ⟨_, z⟩ | ⟨z, h⟩
    · cases z
    · obtain ⟨v, a1, a2⟩ := e.dat j x h
      exact ⟨v, by rw [List.getElem?_set_ne z]; exact a1, a2⟩
  · rcases set_get h with ⟨_, z⟩ | ⟨z, h⟩
    · cases z
    · obtain ⟨r, us, a1, a2⟩ := e.own j ds h
      exact ⟨r, us, by rw [List.getElem?_set_ne z]; exact a1, a2⟩
  · rcases set_get h1 with ⟨_, z⟩ | ⟨z1, h1⟩
    · cases z
    · rcases set_get h2 with ⟨_, z⟩ | ⟨z2, h2⟩
      · cases z
      · rw [List.getElem?_set_ne z1] at h3
        rw [List.getElem?_set_ne z2] at h4
        exact e.inj j k ds es r h1 h2 h3 h4
theorem wps_u (i : Nat) {t : TS} {E : Env'} (h : wps K b t (E.set i .u) P) : wps K b t E P := fun F0 H0 F H σ s w e Dn k => h F0 H0 F H σ s w e.setU Dn k
def noO : Env' → Bool
  | [] => true
  | .o _ :: _ => false
  | _ :: E => noO E
theorem ho_of : ∀ {E : Env'}, noO E = true → ∀ (j : Nat) (ds : List D), E[j]? ≠ some (.o ds)
  | [], _, j, ds, z => by simp at z
  | .u :: E, h, 0, ds, z => by simp at z
  | .d _ :: E, h, 0, ds, z => by simp at z
  | .o _ :: E, h, _, ds, z => by cases h
  | .u :: E, h, j + 1, ds, z => ho_of (E := E) h j ds (by simpa using z)
  | .d _ :: E, h, j + 1, ds, z => ho_of (E := E) h j ds (by simpa using z)
/-! two new lists of numbers and numbers in a new list -/
def ownA (b : Bg) (F G : Hp) (a : Addr) : Prop := F a = none ∧ G a = none ∧ ∀ c, b ≠ some (a, c)
theorem ownA.step {G : Hp} {a : Addr} {o : HO} (h : ownA b F G a) (e : H a = some o) (s : Step b F H F' H') : ownA b F' G a ∧ H' a = some o :=
  ⟨⟨s.out a h.1 (by rw [e]; exact fun z => nomatch z), h.2⟩, s.keep a o h.2.2 e⟩
def MxR (b : Bg) (w0 w1 ns : List Int) : Hp → Hp → Hp → V → Prop := fun F H G v => ∃ p q0 q1, v = .ref p ∧ (ownA b F G p ∧ H p = some (.lst (.ref q0 :: .ref q1 :: ns.map V.int))) ∧ (ownA b F G q0 ∧ H q0 = some (.lst (w0.map V.int))) ∧ (ownA b F G q1 ∧ H q1 = some (.lst (w1.map V.int))) ∧ p ≠ q0 ∧ p ≠ q1 ∧ q0 ≠ q1
def dMx (w0 w1 ns : List Int) : D := .lst (dI w0 :: dI w1 :: ns.map D.int)
theorem mx_hold (w0 w1 ns : List Int) : Hold K b (dMx w0 w1 ns) (MxR b w0 w1 ns) := by
  refine ⟨fun ⟨p, q0, q1, e, h1, h2, h3, r⟩ s => ⟨p, q0, q1, e, h1.1.step h1.2 s, h2.1.step h2.2 s, h3.1.step h3.2 s, r⟩, fun ⟨p, q0, q1, e, h1, h2, h3, r⟩ k => ⟨p, q0, q1, e, ⟨⟨h1.1.1, k _ h1.1.2.1, h1.1.2.2⟩, h1.2⟩, ⟨⟨h2.1.1, k _ h2.1.2.1, h2.1.2.2⟩, h2.2⟩, ⟨⟨h3.1.1, k _ h3.1.2.1, h3.1.2.2⟩, h3.2⟩, r⟩, fun ⟨p, q0, q1, e, h1, h2, h3, r⟩ => ?_⟩
  subst e
  refine ⟨fun a => a = p ∨ a = q0 ∨ a = q1, fun a z => ?_, fun a z => ?_, fun G x y => ?_⟩
  · rcases z with rfl | rfl | rfl
    · exact h1.1.1
    · exact h2.1.1
    · exact h3.1.1
  · rcases z with rfl | rfl | rfl
    · exact h1.1.2.2
    · exact h2.1.2.2
    · exact h3.1.2.2
  · exact .lst (by rw [y p (.inl rfl)]; exact h1.2) (.cons (.lst (by rw [y q0 (.inr (.inl rfl))]; exact h2.2) (DvA.of_ints w0)) (.cons (.lst (by rw [y q1 (.inr (.inr rfl))]; exact h3.2) (DvA.of_ints w1)) (DvA.of_ints ns)))
def wpm (K : PySem.W.Frag) (b : Bg) (t : TE) (E : Env') (w0 w1 ns : List Int) : Prop := ∀ H0 F H σ, Wd K b F H → EnvD K b H0 F H σ E →
  ∀ Q : VK, (∀ v F' H', Step b F H F' H' → Wd K b F' H' → MxR b w0 w1 ns F' H' H v → Q v H') → t σ H Q
def Sm {α : Type} (K : PySem.W.Frag) (args : α → List D) (pre : α → Prop) (w0 w1 ns : α → List Int) : Sp := fun vs H Q _ => ∃ b F a, Wd K b F H ∧ DvA K b F vs (args a) ∧ pre a ∧
  ∀ v F' H', Step b F H F' H' → Wd K b F' H' → MxR b (w0 a) (w1 a) (ns a) F' H' H v → Q v H'
theorem ln_m {α : Type} {args : α → List D} {pre : α → Prop} {w0 w1 ns : α → List Int} {n : Nat} {vs : List V} {Q : VK} {EE : XK} (h : Sm K args pre w0 w1 ns vs H Q EE) (hn : ∀ a, (args a).length = n) : vs.length = n := by
  obtain ⟨_, _, a, _, h, _⟩ := h
  exact h.len.trans (hn a)
theorem wpm_call {α : Type} {args : α → List D} {pre : α → Prop} {w0 w1 ns : α → List Int} {EE : XK} {tr : TA} {v0 v1 ms : List Int} (h : wpa K b tr E fun xs => ∃ a, xs = args a ∧ pre a ∧ w0 a = v0 ∧ w1 a = v1 ∧ ns a = ms) : wpm K b (tCall (Sm K args pre w0 w1 ns) [] EE tr) E v0 v1 ms := fun H0 F H σ w e Q k =>
  h H0 F H σ w e _ fun vs F1 H1 xs s1 w1' d1 p1 => by
    obtain ⟨a, rfl, h1, rfl, rfl, rfl⟩ := p1
    rw [List.append_nil]
    exact ⟨b, F1, a, w1', d1, h1, fun v F' H' s w' N => k v F' H' (s1.trans s w1') w' ((mx_hold (K := K) _ _ _).old N fun a z => s1.fresh w1' z)⟩
theorem wpsM_asg {i : Nat} {w0 w1 ns : List Int} (h : wpm K b te E w0 w1 ns) (q : wpsR K b i (MxR b w0 w1 ns) u (E.set i .u) P) (hi : i < E.length) : wps K b (tSeq (tAsg te (gName i)) u) E P := fun F0 H0 F H σ s w e Dn k =>
  h H0 F H σ w e _ fun v F' H' s' w' N => q F0 H0 F' H' _ v (s.trans s' w) w' ((e.step s').setV) (List.getElem?_set_self (by rw [e.len]; exact hi)) ((mx_hold (K := K) _ _ _).old N fun a z => s.fresh w z) Dn (k.up s'.ex)
/-- .. becomes data -/
theorem wpe_m {w0 w1 ns : List Int} (h : wpm K b te E w0 w1 ns) (q : Φ (dMx w0 w1 ns)) : wpe K b te E Φ := fun H0 F H σ w e Q k =>
  h H0 F H σ w e _ fun v F1 H1 s1 wd1 N => by
    obtain ⟨p, q0, q1, rfl, ⟨⟨a1, a2, a3⟩, a4⟩, ⟨⟨b1, b2, b3⟩, b4⟩, ⟨⟨c1, c2, c3⟩, c4⟩, n1, n2, n3⟩ := N
    have w2 := wd1.frz a1 a4 a3
    have f1 : (upd F1 p (.lst (.ref q0 :: .ref q1 :: ns.map V.int))) q0 = none := by rw [upd_ne (fun z => n1 z.symm)]; exact b1
    have w3 := w2.frz f1 b4 b3
    have f2 : (upd (upd F1 p (.lst (.ref q0 :: .ref q1 :: ns.map V.int))) q0 (.lst (w0.map V.int))) q1 = none := by rw [upd_ne (fun z => n3 z.symm), upd_ne (fun z => n2 z.symm)]; exact c1
    have w4 := w3.frz f2 c4 c3
    refine k (.ref p) _ H1 (dMx w0 w1 ns) ?_ w4 ?_ q
    · refine ⟨s1.ex.trans ((Ex.new a1).trans ((Ex.new f1).trans (Ex.new f2))), s1.keep, fun a h1 h2 => ?_⟩
      rw [upd_ne (fun z => h2 (by rw [z]; exact c2)), upd_ne (fun z => h2 (by rw [z]; exact b2)), upd_ne (fun z => h2 (by rw [z]; exact a2))]
      exact s1.out a h1 h2
    · exact .lst (by rw [upd_ne n2, upd_ne n1]; exact upd_same) (.cons (.lst (by rw [upd_ne n3]; exact upd_same) (DvA.of_ints w0)) (.cons (.lst upd_same (DvA.of_ints w1)) (DvA.of_ints ns)))
theorem wpm_lst {t0 t1 : TE} {tr : TA} {w0 w1 ns : List Int} (hz : ns.length ≤ 1000) (h : wpl K b t0 E fun d0 => d0 = w0.map D.int ∧ wpl K b t1 E fun d1 => d1 = w1.map D.int ∧ wpa K b tr E fun xs => xs = ns.map D.int) : wpm K b (tLst (tCons t0 (tCons t1 tr))) E w0 w1 ns := fun H0 F H σ w e Q k =>
  h H0 F H σ w e _ fun q0 us0 F1 H1 d0 s1 wd1 n1 f1 h1 v1 p1 => by
    obtain ⟨rfl, p1⟩ := p1
    have e1 := v1.ints
    subst e1
    refine p1 H0 F1 H1 σ wd1 (e.step s1) _ fun q1 us1 F2 H2 d1 s2 wd2 n2 f2 h2 v2 p2 => ?_
    obtain ⟨rfl, p2⟩ := p2
    have e2 := v2.ints
    subst e2
    refine p2 H0 F2 H2 σ wd2 ((e.step s1).step s2) _ fun vs F3 H3 xs s3 wd3 v3 p3 => ?_
    subst p3
    have e3 := v3.ints
    subst e3
    refine ⟨by show (ns.map V.int).length + 1 + 1 ≤ sizeLine; rw [List.length_map]; exact Nat.le_trans (show ns.length + 1 + 1 ≤ 1002 by omega) (by decide), fun p hp => ?_⟩
    have s12 := s1.trans s2 wd1
    have s13 := s12.trans s3 wd2
    have o0 : ownA b F1 H q0 := ⟨f1, n1, w.nb n1⟩
    obtain ⟨o0a, o0b⟩ := o0.step h1 (s2.trans s3 wd2)
    have o1 : ownA b F2 H q1 := ⟨f2, s1.fresh wd1 n2, w.nb (s1.fresh wd1 n2)⟩
    obtain ⟨o1a, o1b⟩ := o1.step h2 s3
    have p0 : p ≠ q0 := fun z => by rw [z, o0b] at hp; cases hp
    have p1 : p ≠ q1 := fun z => by rw [z, o1b] at hp; cases hp
    have q01 : q0 ≠ q1 := fun z => by
      rw [← z] at n2
      rw [h1] at n2; cases n2
    obtain ⟨wd4, s4⟩ := wd3.newO (o := .lst (.ref q0 :: .ref q1 :: ns.map V.int)) hp
    refine k (.ref p) F3 _ (s13.trans s4 wd3) wd4 ⟨p, q0, q1, rfl, ⟨⟨wd3.outN hp, s13.fresh wd3 hp, w.nb (s13.fresh wd3 hp)⟩, upd_same⟩, ⟨o0a, ?_⟩, ⟨o1a, ?_⟩, p0, p1, q01⟩
    · rw [upd_ne (fun z => p0 z.symm)]; exact o0b
    · rw [upd_ne (fun z => p1 z.symm)]; exact o1b
/-- xs[0].append(n) -/
theorem wpsM_app {i : Nat} {w0 w1 ns : List Int} {n : Int} (ho : ∀ (j : Nat) (ds : List D), E[j]? ≠ some (.o ds)) (hl : w0.length < 100000) (h : wpsR K b i (MxR b (w0 ++ [n]) w1 ns) u E P) : wpsR K b i (MxR b w0 w1 ns) (tSeq (tDrop (tBM K "list" rAppend (tOp (rIx K) (tVar i) (tC (.int 0))) (tCons (tC (.int n)) tNil))) u) E P := fun F0 H0 F H σ v s w e hs N Dn k => by
  obtain ⟨p, q0, q1, rfl, ⟨⟨a1, a2, a3⟩, a4⟩, ⟨⟨b1, b2, b3⟩, b4⟩, ⟨⟨c1, c2, c3⟩, c4⟩, n1, n2, n3⟩ := N
  refine ⟨.ref p, hs, .inl ⟨p, _, 0, .ref q0, rfl, rfl, SqL.of a4, atI_nat (j := 0) rfl, .inl ⟨rfl, _, SqL.of b4⟩, q0, w0.map V.int, .int n, rfl, rfl, b4, ?_, ?_⟩⟩
  · rw [List.length_map]; exact Nat.lt_of_lt_of_le hl (by decide)
  · have e2 : EnvD K b H0 F (upd H q0 (.lst (w0.map V.int ++ [.int n]))) σ E := ⟨e.len, e.dat, fun j ds z => absurd z (ho j ds), fun j k ds es r z => absurd z (ho j ds)⟩
    refine h F0 H0 F _ σ (.ref p) (s.turn b2) (w.turn b1 b3) e2 hs ⟨p, q0, q1, rfl, ⟨⟨a1, a2, a3⟩, ?_⟩, ⟨⟨b1, b2, b3⟩, ?_⟩, ⟨⟨c1, c2, c3⟩, ?_⟩, n1, n2, n3⟩ Dn k
    · rw [upd_ne n1]; exact a4
    · rw [upd_same, List.map_append]; rfl
    · rw [upd_ne (fun z => n3 z.symm)]; exact c4
/-- xs[1].clear() -/
theorem wpsM_clr {i : Nat} {w0 w1 ns : List Int} (ho : ∀ (j : Nat) (ds : List D), E[j]? ≠ some (.o ds)) (h : wps K b u E P) : wpsR K b i (MxR b w0 w1 ns) (tSeq (tDrop (tBM0 K "list" rClear (tOp (rIx K) (tVar i) (tC (.int 1))))) u) E P := fun F0 H0 F H σ v s w e hs N Dn k => by
  obtain ⟨p, q0, q1, rfl, ⟨⟨a1, a2, a3⟩, a4⟩, ⟨⟨b1, b2, b3⟩, b4⟩, ⟨⟨c1, c2, c3⟩, c4⟩, n1, n2, n3⟩ := N
  refine ⟨.ref p, hs, .inl ⟨p, _, 1, .ref q1, rfl, rfl, SqL.of a4, atI_nat (j := 1) rfl, .inl ⟨rfl, _, SqL.of c4⟩, q1, w1.map V.int, rfl, rfl, c4, ?_⟩⟩
  exact h F0 H0 F _ σ (s.turn c2) (w.turn c1 c3) ⟨e.len, e.dat, fun j ds z => absurd z (ho j ds), fun j k ds es r z => absurd z (ho j ds)⟩ Dn k
/-! a new list that is changed at once and forgotten -/
theorem wpe_appT {n : Int} (h : wpl K b tl E fun ds => ds.length < 100000 ∧ Φ .non) : wpe K b (tBM K "list" rAppend tl (tCons (tC (.int n)) tNil)) E Φ := fun H0 F H σ w e Q k =>
  h H0 F H σ w e _ fun p vs F1 H1 ds s1 w1 n1 f1 h1 d1 q => by
    refine ⟨.inl ⟨rfl, vs, SqL.of h1⟩, p, vs, .int n, rfl, rfl, h1, by rw [d1.len]; exact Nat.lt_of_lt_of_le q.1 (by decide), ?_⟩
    exact k .non F1 _ .non (s1.turn n1) (w1.turn f1 (w.nb n1)) .non q.2
theorem wpe_clrT (h : wpl K b tl E fun _ => Φ .non) : wpe K b (tBM0 K "list" rClear tl) E Φ := fun H0 F H σ w e Q k =>
  h H0 F H σ w e _ fun p vs F1 H1 ds s1 w1 n1 f1 h1 d1 q => by
    refine ⟨.inl ⟨rfl, vs, SqL.of h1⟩, p, vs, rfl, rfl, h1, ?_⟩
    exact k .non F1 _ .non (s1.turn n1) (w1.turn f1 (w.nb n1)) .non q
end
end DL

namespace DL
open PySem PySem.Spec PyProof.Rows L2
section
variable {K : PySem.W.Frag} {b : Bg} {E : Env'} {ta tb te tl : TE} {t u : TS} {P : Po} {Φ : D → Prop} {F H F' H' : Hp} {C : Addr}
/-! an own list lent out while an expression runs that ends in data without lists -/
mutual
def D.nl : D → Bool
  | .non => true | .bl _ => true | .int _ => true | .str _ => true | .tup ds => D.nlA ds | .lst _ => false | .obj _ _ _ => false | .bag => false | .fn _ => true
def D.nlA : List D → Bool
  | [] => true | d :: ds => d.nl && D.nlA ds
end
mutual
theorem Dv.keepT {G : Hp} (h : ∀ a xs, (G a = some (.tup xs) ∨ ∃ o, G a = some (.frz o (.tup xs))) → F a = G a) : ∀ (d : D) (v : V), d.nl = true → Dv K b G v d → Dv K b F v d
  | .non, _, _, z => by cases z; exact .non
  | .bl _, _, _, z => by cases z; exact .bl _
  | .int _, _, _, z => by cases z; exact .int _
  | .str _, _, _, z => by cases z; exact .str _
  | .fn _, _, _, z => by cases z; exact .fn _
  | .lst _, _, n, _ => by unfold D.nl at n; cases n
  | .obj _ _ _, _, n, _ => by unfold D.nl at n; cases n
  | .bag, _, n, _ => by unfold D.nl at n; cases n
  | .tup ds, _, n, z => by
    unfold D.nl at n
    cases z with
    | tup s a =>
      refine .tup ?_ (DvA.keepT h ds _ n a)
      rcases s with (s | ⟨o, s⟩) | s
      · exact .inl (.inl ((h _ _ (.inl s)).trans s))
      · exact .inl (.inr ⟨o, (h _ _ (.inr ⟨o, s⟩)).trans s⟩)
      · exact .inr s
theorem DvA.keepT {G : Hp} (h : ∀ a xs, (G a = some (.tup xs) ∨ ∃ o, G a = some (.frz o (.tup xs))) → F a = G a) : ∀ (ds : List D) (vs : List V), D.nlA ds = true → DvA K b G vs ds → DvA K b F vs ds
  | [], _, _, z => by cases z; exact .nil
  | d :: ds, _, n, z => by
    unfold D.nlA at n
    rw [Bool.and_eq_true] at n
    cases z with
    | cons x y => exact .cons (Dv.keepT h d _ n.1 x) (DvA.keepT h ds _ n.2 y)
end
/-- one list, lent -/
theorem lend1 {H0 : Hp} {σ : L2.St} {i : Nat} {p : Addr} {us : List V} {ds : List D} (w : Wd K b F H) (e : EnvD K b H0 F H σ E) (ho : ∀ (j : Nat) (es : List D), (E.set i .u)[j]? ≠ some (.o es)) (hs : σ[i]? = some (some (.ref p))) (fp : F p = none) (nb : ∀ c, b ≠ some (p, c)) (hp : H p = some (.lst us)) (hd : DvA K b F us ds) :
    ∃ G, Wd K b G H ∧ EnvD K b H0 G H σ (E.set i (.d (.lst ds))) ∧ ∀ G' H', Step b G H G' H' → Wd K b G' H' → ∃ F', Step b F H F' H' ∧ Wd K b F' H' ∧ (∀ a, a ≠ p → F' a = G' a) ∧ G' p = some (.lst us) := by
  have w2 := w.frz fp hp nb
  have e1 : EnvD K b H0 (upd F p (.lst us)) H σ (E.set i .u) := by
    have e0 := e.setU (i := i)
    exact ⟨e0.len, fun j x h => let ⟨v, a1, a2⟩ := e0.dat j x h; ⟨v, a1, a2.up (Ex.new fp)⟩, fun j ds h => absurd h (ho j ds), fun j k ds es r h => absurd h (ho j ds)⟩
  have e2 := e1.setD (i := i) (v := .ref p) (x := .lst ds) (.lst upd_same (hd.up (Ex.new fp)))
  have es : σ.set i (some (.ref p)) = σ := by
    refine List.ext_getElem? fun j => ?_
    by_cases hj : i = j
    · subst hj
      rw [List.getElem?_set_self (List.getElem?_eq_some_iff.mp hs).1, hs]
    · rw [List.getElem?_set_ne hj]
  rw [es, List.set_set] at e2
  refine ⟨_, w2, e2, fun G' H' s w' => ⟨fun a => if a = p then none else G' a, ⟨fun a o q => ?_, s.keep, fun a e1 e2 => ?_⟩, ⟨fun a o q => ?_, fun a c hb => ?_⟩, fun a z => ?_, s.ex p _ upd_same⟩⟩
  · show (if a = p then none else G' a) = some o
    rw [if_neg (ne_of_none q fp)]
    exact s.ex a o (by rw [upd_ne (ne_of_none q fp)]; exact q)
  · show (if a = p then none else G' a) = none
    by_cases ha : a = p
    · rw [if_pos ha]
    · rw [if_neg ha]; exact s.out a (by rw [upd_ne ha]; exact e1) e2
  · have q' : (if a = p then none else G' a) = some o := q
    by_cases ha : a = p
    · rw [if_pos ha] at q'; cases q'
    · rw [if_neg ha] at q'; exact w'.ex a o q'
  · have B := w'.bag a c hb
    have A := w.bag a c hb
    obtain ⟨ns, s1, s2⟩ := A.cell
    refine ⟨?_, B.bag, ⟨ns, exL (fun a o q => ?_) s1, s2⟩⟩
    · show (if a = p then none else G' a) = none
      by_cases ha : a = p
      · rw [if_pos ha]
      · rw [if_neg ha]; exact B.out
    · show (if a = p then none else G' a) = some o
      rw [if_neg (ne_of_none q fp)]
      exact s.ex a o (by rw [upd_ne (ne_of_none q fp)]; exact q)
  · show (if a = p then none else G' a) = G' a
    rw [if_neg z]
theorem keep_of {G' : Hp} {p : Addr} {us : List V} (h1 : ∀ a, a ≠ p → F' a = G' a) (h2 : G' p = some (.lst us)) (a : Addr) (xs : List V) (h : G' a = some (.tup xs) ∨ ∃ o, G' a = some (.frz o (.tup xs))) : F' a = G' a := h1 a fun z => by
  rw [z, h2] at h
  rcases h with h | ⟨o, h⟩ <;> cases h
theorem wpe_lendT (i : Nat) {ds : List D} (hi : E[i]? = some (.o ds)) (ho : noO (E.set i .u) = true) (h : wpe K b te (E.set i (.d (.lst ds))) fun x => D.nl x = true ∧ Φ x) : wpe K b te E Φ := fun H0 F H σ w e Q k => by
  obtain ⟨p, us, h1, h2, h3, h4, h5, h6⟩ := e.own i ds hi
  obtain ⟨G, w1, e1, back⟩ := lend1 w e (ho_of ho) h1 h3 h4 h5 h6
  refine h H0 G H σ w1 e1 Q fun v G' H' x s w' d q => ?_
  obtain ⟨F', s2, w2, b1, b2⟩ := back G' H' s w'
  exact k v F' H' x s2 w2 (Dv.keepT (keep_of b1 b2) x v q.1 d) q.2
theorem wpl_lendT (i : Nat) {ds : List D} {Φ : List D → Prop} (hi : E[i]? = some (.o ds)) (ho : noO (E.set i .u) = true) (h : wpl K b te (E.set i (.d (.lst ds))) fun es => D.nlA es = true ∧ Φ es) : wpl K b te E Φ := fun H0 F H σ w e Q k => by
  obtain ⟨p, us, h1, h2, h3, h4, h5, h6⟩ := e.own i ds hi
  obtain ⟨G, w1, e1, back⟩ := lend1 w e (ho_of ho) h1 h3 h4 h5 h6
  refine h H0 G H σ w1 e1 Q fun r vs G' H' es s w' n1 n2 n3 d q => ?_
  obtain ⟨F', s2, w2, b1, b2⟩ := back G' H' s w'
  have rp : r ≠ p := fun z => by rw [z, h5] at n1; cases n1
  exact k r vs F' H' es s2 w2 n1 (by rw [b1 r rp]; exact n2) n3 (DvA.keepT (keep_of b1 b2) es vs q.1 d) q.2
/-- return xs or [..] -/
theorem wps_retorT {i : Nat} {ds : List D} (hi : E[i]? = some (.o ds)) (h1 : ds ≠ [] → P.rl ds) (h2 : ds = [] → wpl K b te E P.rl) : wps K b (tRet (tOrT K (tVar i) te)) E P := fun F0 H0 F H σ s w e Dn k => by
  obtain ⟨p, us, a1, a2, a3, a4, a5, a6⟩ := e.own i ds hi
  refine ⟨.ref p, a1, !us.isEmpty, .inl ⟨us, SqL.of a5, rfl⟩, ?_⟩
  cases ds with
  | nil =>
    cases a6
    refine (if_neg (by decide) : (if (!([] : List V).isEmpty) = true then _ else _) = _).symm ▸ ?_
    exact h2 rfl H0 F H σ w e Dn.rt fun q vs F' H' es s' w' n1 n2 n3 d p => k.rl q vs F' H' es (s.trans s' w) w' (s.fresh w n1) n2 (w.nb n1) n3 d p
  | cons d ds =>
    cases a6 with
    | cons x y =>
      refine (if_pos rfl : (if (!(_ :: _ : List V).isEmpty) = true then _ else _) = _).symm ▸ ?_
      exact k.rl p _ F H _ s w a2 a3 a4 a5 (.cons x y) (h1 (by simp))
/-- list(range(n)) -/
theorem wpl_rng {Φ : List D → Prop} (h : wpe K b te E fun x => ∃ n : Nat, x = .int n ∧ n ≤ 100000 ∧ Φ ((List.range n).map fun j => .int (j : Nat))) : wpl K b (tLstRg (tRg1 te)) E Φ := fun H0 F H σ w e Q k =>
  h H0 F H σ w e _ fun v F1 H1 x s1 w1 d1 p1 => by
    obtain ⟨n, rfl, hn, q⟩ := p1
    cases d1
    refine ⟨n, rfl, RgOk.of_le (by omega) (by omega) (by omega) (by omega), fun r hr => ?_⟩
    obtain ⟨w2, s2⟩ := w1.newO (o := .lst (rgV 0 n)) hr
    refine k r _ F1 _ _ (s1.trans s2 w1) w2 (s1.fresh w1 hr) (w1.outN hr) upd_same ?_ q
    have e1 : rgV 0 (n : Int) = ((List.range n).map fun j => ((j : Nat) : Int)).map V.int := by
      unfold rgV
      rw [Int.sub_zero, Int.toNat_natCast, List.map_map]
      exact List.map_congr_left fun j _ => by rw [Int.zero_add]; rfl
    have e2 : ((List.range n).map fun j => D.int (j : Nat)) = ((List.range n).map fun j => ((j : Nat) : Int)).map D.int := by rw [List.map_map]; rfl
    rw [e1, e2]
    exact DvA.of_ints _
/-! Council.part -/
def okCs (qs cs : List Int) : Prop := (1 ≤ cs.length ∧ cs.length ≤ 6) ∧ ∀ c ∈ cs, 0 ≤ c ∧ c < qs.length
def spPart (K : PySem.W.Frag) (C : Addr) : Sp := fun vs H Q _ => ∃ (b : Bg) (F : Hp) (v0 : V) (p : Addr) (ws qs cs : List Int), vs = [v0, .ref p] ∧ Wd K b F H ∧ Dv K b F v0 (dC C ws qs) ∧ okQ ws qs ∧ H p = some (.lst (cs.map V.int)) ∧ (∀ c, b ≠ some (p, c)) ∧ okCs qs cs ∧
  ∀ v F' H', Step b F H F' H' → Wd K b F' H' → Dv K b F' v (dC C ws (cs.map (rget qs))) → Q v H'
theorem ins_of {v : V} {ns : List Str} {ds : List D} (h : Dv K b F v (.obj C ns ds)) : ∃ a dx fs, v = .ref a ∧ F a = some (.ins C dx fs) ∧ fs.map (·.1) = ns := by
  cases h with
  | @obj a _ dx fs _ s a' => exact ⟨a, dx, fs, rfl, s, rfl⟩
theorem no_part : ("part" : Str) ∉ cNames := by decide +kernel
theorem no_mirrored : ("mirrored" : Str) ∉ cNames := by decide +kernel
theorem wpe_partD {EE : XK} (h : wpe K b ta E fun x => ∃ ws qs, x = dC C ws qs ∧ okQ ws qs ∧ wpe K b tb E fun y => ∃ cs, y = dI cs ∧ okCs qs cs ∧ Φ (dC C ws (cs.map (rget qs)))) : wpe K b (tMeth C "part" (spPart K C) [] EE ta (tCons tb tNil)) E Φ := fun H0 F H σ w e Q k =>
  h H0 F H σ w e _ fun v F1 H1 x s1 w1 d1 p1 => by
    obtain ⟨ws, qs, rfl, hok, p2⟩ := p1
    obtain ⟨a, dx, fs, rfl, s, hn⟩ := ins_of d1
    refine ⟨a, dx, fs, rfl, w1.ex _ _ s, ins_no (by rw [hn]; exact no_part), ?_⟩
    refine p2 H0 F1 H1 σ w1 (e.step s1) _ fun u F2 H2 y s2 w2 d2 p3 => ?_
    obtain ⟨cs, rfl, hc, q⟩ := p3
    cases d2 with
    | @lst p xs _ s3 a3 =>
      have e3 := a3.ints
      subst e3
      refine ⟨b, F2, .ref a, p, ws, qs, cs, rfl, w2, d1.up s2.ex, hok, w2.ex _ _ s3, fun c z => ?_, hc, fun v F' H' s' w' d => k v F' H' _ ((s1.trans s2 w1).trans s' w2) w' d q⟩
      have := (w2.bag p c z).out
      rw [s3] at this; cases this
theorem wpe_partO {EE : XK} {i : Nat} {cs : List Int} (hi : E[i]? = some (.o (cs.map D.int))) (h : wpe K b ta E fun x => ∃ ws qs, x = dC C ws qs ∧ okQ ws qs ∧ okCs qs cs ∧ Φ (dC C ws (cs.map (rget qs)))) : wpe K b (tMeth C "part" (spPart K C) [] EE ta (tCons (tVar i) tNil)) E Φ := fun H0 F H σ w e Q k =>
  h H0 F H σ w e _ fun v F1 H1 x s1 w1 d1 p1 => by
    obtain ⟨ws, qs, rfl, hok, hc, q⟩ := p1
    obtain ⟨a, dx, fs, rfl, s, hn⟩ := ins_of d1
    obtain ⟨p, us, a1, a2, a3, a4, a5, a6⟩ := (e.step s1).own i _ hi
    have e3 := a6.ints
    subst e3
    refine ⟨a, dx, fs, rfl, w1.ex _ _ s, ins_no (by rw [hn]; exact no_part), .ref p, a1, ?_⟩
    exact ⟨b, F1, .ref a, p, ws, qs, cs, rfl, w1, d1, hok, a5, a4, hc, fun v F' H' s' w' d => k v F' H' _ (s1.trans s' w1) w' d q⟩
theorem ln_part {vs : List V} {Q : VK} {EE : XK} (h : spPart K C vs H Q EE) : vs.length = 2 := by
  obtain ⟨b, F, v0, p, ws, qs, cs, rfl, _⟩ := h; rfl
/-- a Council from two values that hold its lists -/
theorem make_tail {ok : List Int → List Int → Prop} {EE : XK} {v1 v2 : V} {ws qs : List Int} {Q : VK} (w : Wd K b F H) (d1 : Dv K b F v1 (dI ws)) (d2 : Dv K b F v2 (dI qs)) (hok : ok ws qs) (k : ∀ v F' H', Step b F H F' H' → Wd K b F' H' → Dv K b F' v (dC C ws qs) → Q v H') :
    ∀ x dx, H x = none → H dx = none → dx ≠ x → spInit K C ok (.ref x :: ([v1, v2] ++ [])) (upd (upd H dx (.own x)) x (.ins C dx [])) (fun v H2 => v = .non ∧ Q (.ref x) H2) EE := by
  have e : EnvD K b H F H [some v1, some v2] [.d (dI ws), .d (dI qs)] := by
    refine ⟨rfl, fun i x z => ?_, fun i ds z => ?_, fun i j ds es r z => ?_⟩
    · rcases i with _ | _ | i
      · cases z; exact ⟨v1, rfl, d1⟩
      · cases z; exact ⟨v2, rfl, d2⟩
      · simp at z
    · rcases i with _ | _ | i <;> simp at z
    · rcases i with _ | _ | i <;> simp at z
  have T := wpe_make (K := K) (b := b) (C := C) (ok := ok) (EE := EE) (E := [.d (dI ws), .d (dI qs)]) (tr := tCons (tVar 0) (tCons (tVar 1) tNil)) (Φ := fun z => z = dC C ws qs) (wpa_cons (wpe_var (by rfl) (wpa_cons (wpe_var (by rfl) (wpa_nil ⟨ws, qs, rfl, hok, rfl⟩)))))
    H F H [some v1, some v2] w e Q fun v F' H' x s w' d p => k v F' H' s w' (p ▸ d)
  obtain ⟨u1, z1, u2, z2, T⟩ := T
  cases z1
  cases z2
  exact T
def t_C_part (K : PySem.W.Frag) (C : Addr) : TS :=
  (tRet (tMake C (sp_C_init K C) [] E0 (tCons (tFld K (tVar 0) "_weights") (tCons (tLc (iList K (tVar 1)) (gName 2) tYes (tOp (rIx K) (tFld K (tVar 0) "_quotas") (tVar 2)) [2]) tNil))))
theorem r_C_part (cf : CF K C) {vs : List V} {Q : VK} {EE : XK} (h : spPart K C vs H Q EE) : t_C_part K C (De Q) (L2.start ["self", "columns", "column"] vs) H := by
  obtain ⟨b, F, v0, p, ws, qs, cs, rfl, w, d0, hok, hp, nb, hc, k⟩ := h
  obtain ⟨⟨hc1, hc6⟩, hcs⟩ := hc
  have hok2 : okQ ws (cs.map (rget qs)) := by
    obtain ⟨a1, a2, a3, a4⟩ := hok
    refine ⟨a1, by rw [List.length_map]; omega, a3, fun q hq => ?_⟩
    obtain ⟨c, hcm, rfl⟩ := List.mem_map.mp hq
    have := hcs c hcm
    obtain ⟨n, rfl⟩ : ∃ n : Nat, c = n := ⟨c.toNat, by omega⟩
    have hn : n < qs.length := by omega
    have e : rget qs (n : Nat) = qs[n] := by unfold rget; rw [Int.toNat_natCast, List.getD, List.getElem?_eq_getElem hn]; rfl
    rw [e]
    exact a4 _ (List.getElem_mem hn)
  have L : wpl K b (tLc (iList K (tVar 1)) (gName 2) tYes (tOp (rIx K) (tFld K (tVar 0) "_quotas") (tVar 2)) [2]) [.d (dC C ws qs), .d (dI cs), .u] fun es => es = (cs.map (rget qs)).map D.int := by
    refine wpl_gen1 (R := fun j y => ∃ c, cs[j]? = some c ∧ y = .int (rget qs c)) (wpi_list (wpe_var (by rfl) ⟨_, rfl, by rw [List.length_map]; omega, fun j d hd => ?_, fun acc hl hR => ?_⟩))
    · obtain ⟨c, hcj, rfl, hm⟩ := map_mem hd
      have := hcs c hm
      exact wpe_op (wpe_fld cf.cl cf.nQ (wpe_var (by rfl) ⟨_, _, _, rfl, look_q (C := C), wpe_var (by rfl) (rd_ixl (rget_at this.1 this.2) ⟨c, hcj, rfl⟩)⟩))
    · rw [List.length_map] at hl
      refine list_of_get (by rw [hl]; simp) fun j y z => ?_
      obtain ⟨c, hcj, rfl⟩ := hR j y z
      rw [List.getElem?_map, List.getElem?_map, hcj]; rfl
  have e : EnvD K b H F H [some v0, some (.ref p), none] [.d (dC C ws qs), .u, .u] := by
    refine ⟨rfl, fun i x z => ?_, fun i ds z => ?_, fun i j ds es r z => ?_⟩
    · rcases i with _ | _ | _ | i
      · cases z; exact ⟨v0, rfl, d0⟩
      · cases z
      · cases z
      · simp at z
    · rcases i with _ | _ | _ | i <;> simp at z
    · rcases i with _ | _ | _ | i <;> simp at z
  have W : wpe K b (tFld K (tVar 0) "_weights") [.d (dC C ws qs), .u, .u] fun x => x = dI ws := wpe_fld cf.cl cf.nW (wpe_var (by rfl) ⟨_, _, _, rfl, look_w (C := C), rfl⟩)
  show tMake C (sp_C_init K C) [] E0 _ [some v0, some (.ref p), none] H Q
  rw [tMake, tCons]
  refine W H F H _ w e _ fun v1 F1 H1 x s1 w1 d1 hx => ?_
  subst hx
  have hp1 : H1 p = some (.lst (cs.map V.int)) := s1.keep p _ nb hp
  have e1 := e.step s1
  -- the list of the quotas
  have go : ∀ (r : Addr) F2 H2, Step b F1 H1 F2 H2 → Wd K b F2 H2 → H1 r = none → F2 r = none → H2 r = some (.lst ((cs.map (rget qs)).map V.int)) → ∀ x dx, H2 x = none → H2 dx = none → dx ≠ x → sp_C_init K C (.ref x :: ([v1, .ref r] ++ [])) (upd (upd H2 dx (.own x)) x (.ins C dx [])) (fun v H2 => v = .non ∧ Q (.ref x) H2) E0 := fun r F2 H2 s2 w2 n1 n2 n3 => by
    have w3 := w2.frz n2 n3 (w1.nb n1)
    refine make_tail (F := upd F2 r _) w3 ((d1.up s2.ex).up (Ex.new n2)) (.lst upd_same (DvA.of_ints _)) hok2 fun v F' H' s' w' d => ?_
    refine k v F' H' ?_ w' d
    refine ⟨(s1.ex.trans s2.ex).trans ((Ex.new n2).trans s'.ex), fun a o na ha => s'.keep a o na (s2.keep a o na (s1.keep a o na ha)), fun a h1 h2 => ?_⟩
    have h12 := (s1.trans s2 w1).out a h1 h2
    have hr : a ≠ r := fun z => by
      rw [z] at h2
      exact h2 (s1.fresh w1 n1)
    refine s'.out a (by rw [upd_ne hr]; exact h12) fun z => ?_
    have := (s1.trans s2 w1).fresh w2 z
    exact h2 this
  cases hF : F1 p with
  | none =>
    obtain ⟨G, wG, eG, back⟩ := lend1 (i := 1) w1 e1 (ho_of (by rfl)) rfl hF nb hp1 (DvA.of_ints cs)
    refine L H G H1 _ wG eG _ fun r us G' H' es s' w' n1 n2 n3 d hes => ?_
    subst hes
    have ei := d.ints
    subst ei
    obtain ⟨F2, s2, w2, b1, b2⟩ := back G' H' s' w'
    exact go r F2 H' s2 w2 n1 (by rw [b1 r (fun z => by rw [z, hp1] at n1; cases n1)]; exact n2) n3
  | some o =>
    have ho := w1.ex p o hF
    rw [hp1] at ho
    cases ho
    have eD := e1.setD (i := 1) (v := .ref p) (x := dI cs) (.lst hF (DvA.of_ints cs))
    refine L H F1 H1 _ w1 eD _ fun r us F2 H2 es s2 w2 n1 n2 n3 d hes => ?_
    subst hes
    have ei := d.ints
    subst ei
    exact go r F2 H2 s2 w2 n1 n2 n3
end
end DL

namespace DL
open PySem PySem.Spec PyProof.Rows L2
/-! repr of councils, the mirrored one, all that a council tells -/
def cText (ws qs : List Int) : Str := (((("Council(" : Str) ++ (dI ws).py.shown) ++ ", ") ++ (dI qs).py.shown) ++ ")"
def mirQ (ws qs : List Int) : List Int := qs.map fun q => ws.sum + 1 - q
abbrev sp_C_repr (K : PySem.W.Frag) (C : Addr) : Sp := Sx K (fun a : List Int × List Int => [dC C a.1 a.2]) (fun _ a => okQ a.1 a.2) fun a x => x = .str (cText a.1 a.2)
abbrev sp_C_mirrored (K : PySem.W.Frag) (C : Addr) : Sp := Sx K (fun a : List Int × List Int => [dC C a.1 a.2]) (fun _ a => okQ a.1 a.2) fun a x => x = dC C a.1 (mirQ a.1 a.2)
abbrev sp_law_told (K : PySem.W.Frag) (C : Addr) : Sp := Sm K (fun a : List Int × List Int => [dC C a.1 a.2]) (fun a => okQ a.1 a.2) (fun a => a.1) (fun a => a.2) fun a => [a.1.sum, (a.2.length : Nat), (a.1.length : Nat)]
abbrev sp_law_council_right (K : PySem.W.Frag) (C : Addr) : Sp := Sx K (fun a : List Int × List Int => [dPt a, dC C a.1 a.2]) (fun _ a => okQ a.1 a.2) fun _ x => x = .bl true
def t_C_repr (K : PySem.W.Frag) (C : Addr) : TS :=
  (tRet (GL.tJoin [(tC (.str ("Council(" : Str))), (GL.tFmtD K (tFld K (tVar 0) "_weights")), (tC (.str (", " : Str))), (GL.tFmtD K (tFld K (tVar 0) "_quotas")), (tC (.str (")" : Str)))]))
def t_C_mirrored (K : PySem.W.Frag) (C : Addr) : TS :=
  (tRet (tMake C (sp_C_init K C) [] E0 (tCons (tFld K (tVar 0) "_weights") (tCons (tLc (iList K (tFld K (tVar 0) "_quotas")) (gName 1) tYes (tOp (rI0 fun i j => .int (i - j)) (tOp (rI0 fun i j => .int (i + j)) (tMeth C "total" (sp_C_total K C) [] E0 (tVar 0) tNil) (tC (.int 1))) (tVar 1)) [1]) tNil))))
def t_law_told (K : PySem.W.Frag) (C : Addr) : TS :=
  (tRet (tLst (tCons (tMeth C "weights" (sp_C_weights K C) [] E0 (tVar 0) tNil) (tCons (tMeth C "quotas" (sp_C_quotas K C) [] E0 (tVar 0) tNil) (tCons (tMeth C "total" (sp_C_total K C) [] E0 (tVar 0) tNil) (tCons (tMeth C "width" (sp_C_width K C) [] E0 (tVar 0) tNil) (tCons (tCB (GL.rLenI C (sp_C_len K C) E0) (tCons (tVar 0) tNil)) tNil)))))))
def t_law_council_right (K : PySem.W.Frag) (C : Addr) : TS :=
  (tSeq (tAsg (tVar 0) (gTup K 2 (gCons (gName 2) (gCons (gName 3) gNil))))
    (tSeq (tAsg (tLst (tCons (tVar 2) (tCons (tVar 3) (tCons (tCB (rSum K) (tCons (tVar 2) tNil)) (tCons (tCB (DL.rLen K) (tCons (tVar 3) tNil)) (tCons (tCB (DL.rLen K) (tCons (tVar 2) tNil)) tNil)))))) (gName 4))
    (tSeq (tAsg (tCall (sp_law_told K C) [] E0 (tCons (tVar 1) tNil)) (gName 5))
    (tSeq (tIfS (tOr (tNot (tB (tCall (sp_law_alike K C) [] E0 (tCons (tVar 5) (tCons (tVar 4) tNil))))) (tTest (tOp rNe (tCB (GL.rReprI C (sp_C_repr K C) E0) (tCons (tVar 1) tNil)) (tOp GL.rAddS (tOp GL.rAddS (tOp GL.rAddS (tOp GL.rAddS (tC (.str ("Council(" : Str))) (tCB (rRepr K) (tCons (tVar 2) tNil))) (tC (.str (", " : Str)))) (tCB (rRepr K) (tCons (tVar 3) tNil))) (tC (.str (")" : Str)))))))
    (tRet (tC (.bl false)))
    tNext)
    (tSeq (tAsg (tLst (tCons (tMeth C "weights" (sp_C_weights K C) [] E0 (tVar 1) tNil) (tCons (tMeth C "quotas" (sp_C_quotas K C) [] E0 (tVar 1) tNil) tNil))) (gName 6))
    (tSeq (tDrop (tBM K "list" rAppend (tMeth C "weights" (sp_C_weights K C) [] E0 (tVar 1) tNil) (tCons (tC (.int 5)) tNil)))
    (tSeq (tDrop (tBM0 K "list" rClear (tMeth C "quotas" (sp_C_quotas K C) [] E0 (tVar 1) tNil)))
    (tSeq (tDrop (tBM K "list" rAppend (tOp (rIx K) (tVar 5) (tC (.int 0))) (tCons (tC (.int 5)) tNil)))
    (tSeq (tDrop (tBM0 K "list" rClear (tOp (rIx K) (tVar 5) (tC (.int 1)))))
    (tSeq (tIfS (tNot (tB (tCall (sp_law_alike K C) [] E0 (tCons (tVar 6) (tCons (tLst (tCons (tVar 2) (tCons (tVar 3) tNil))) tNil)))))
    (tRet (tC (.bl false)))
    tNext)
    (tSeq (tFor (iRng1 (tCons (tCB (DL.rLen K) (tCons (tVar 3) tNil)) tNil)) (gName 7)
    (tSeq (tIfS (tNot (tB (tCall (sp_law_alike K C) [] E0 (tCons (tMeth C "allowance" (sp_C_allowance K C) [] E0 (tVar 1) (tCons (tTup (tCons (tVar 7) (tCons (tC (.str ("least" : Str))) tNil))) tNil)) (tCons (tOp (rI0 fun i j => .int (i - j)) (tOp (rIx K) (tVar 3) (tVar 7)) (tC (.int 1))) tNil)))))
    (tRet (tC (.bl false)))
    tNext)
    (tIfS (tNot (tB (tCall (sp_law_alike K C) [] E0 (tCons (tMeth C "allowance" (sp_C_allowance K C) [] E0 (tVar 1) (tCons (tTup (tCons (tVar 7) (tCons (tC (.str ("most" : Str))) tNil))) tNil)) (tCons (tOp (rI0 fun i j => .int (i - j)) (tCB (rSum K) (tCons (tVar 2) tNil)) (tOp (rIx K) (tVar 3) (tVar 7))) tNil)))))
    (tRet (tC (.bl false)))
    tNext)))
    (tRet (tCall (sp_law_alike K C) [] E0 (tCons (tCall (sp_law_told K C) [] E0 (tCons (tVar 1) tNil)) (tCons (tVar 4) tNil)))))))))))))))
def t_law_right (K : PySem.W.Frag) (C : Addr) : TS :=
  (tSeq (tAsg (tVar 0) (gTup K 2 (gCons (gName 2) (gCons (gName 3) gNil))))
    (tSeq (tAsg (tLst (tCons (tVar 2) (tCons (tVar 3) (tCons (tCB (rSum K) (tCons (tVar 2) tNil)) (tCons (tCB (DL.rLen K) (tCons (tVar 3) tNil)) (tCons (tCB (DL.rLen K) (tCons (tVar 2) tNil)) tNil)))))) (gName 4))
    (tSeq (tAsg (tCall (sp_law_told K C) [] E0 (tCons (tVar 1) tNil)) (gName 5))
    (tSeq (tIfS (tOr (tNot (tB (tCall (sp_law_alike K C) [] E0 (tCons (tVar 5) (tCons (tVar 4) tNil))))) (tTest (tOp rNe (tCB (GL.rReprI C (sp_C_repr K C) E0) (tCons (tVar 1) tNil)) (tOp GL.rAddS (tOp GL.rAddS (tOp GL.rAddS (tOp GL.rAddS (tC (.str ("Council(" : Str))) (tCB (rRepr K) (tCons (tVar 2) tNil))) (tC (.str (", " : Str)))) (tCB (rRepr K) (tCons (tVar 3) tNil))) (tC (.str (")" : Str)))))))
    (tRet (tC (.bl false)))
    tNext)
    (tSeq (tAsg (tLst (tCons (tMeth C "weights" (sp_C_weights K C) [] E0 (tVar 1) tNil) (tCons (tMeth C "quotas" (sp_C_quotas K C) [] E0 (tVar 1) tNil) tNil))) (gName 6))
    (tSeq (tDrop (tBM K "list" rAppend (tMeth C "weights" (sp_C_weights K C) [] E0 (tVar 1) tNil) (tCons (tC (.int 5)) tNil)))
    (tSeq (tDrop (tBM0 K "list" rClear (tMeth C "quotas" (sp_C_quotas K C) [] E0 (tVar 1) tNil)))
    (tSeq (tDrop (tBM K "list" rAppend (tOp (rIx K) (tVar 5) (tC (.int 0))) (tCons (tC (.int 5)) tNil)))
    (tSeq (tDrop (tBM0 K "list" rClear (tOp (rIx K) (tVar 5) (tC (.int 1)))))
    (tSeq (tIfS (tNot (tB (tCall (sp_law_alike K C) [] E0 (tCons (tVar 6) (tCons (tLst (tCons (tVar 2) (tCons (tVar 3) tNil))) tNil)))))
    (tRet (tC (.bl false)))
    tNext)
    (tSeq (tFor (iRng1 (tCons (tCB (DL.rLen K) (tCons (tVar 3) tNil)) tNil)) (gName 7)
    (tSeq (tIfS (tNot (tB (tCall (sp_law_alike K C) [] E0 (tCons (tMeth C "allowance" (sp_C_allowance K C) [] E0 (tVar 1) (tCons (tTup (tCons (tVar 7) (tCons (tC (.str ("least" : Str))) tNil))) tNil)) (tCons (tOp (rI0 fun i j => .int (i - j)) (tOp (rIx K) (tVar 3) (tVar 7)) (tC (.int 1))) tNil)))))
    (tRet (tC (.bl false)))
    tNext)
    (tIfS (tNot (tB (tCall (sp_law_alike K C) [] E0 (tCons (tMeth C "allowance" (sp_C_allowance K C) [] E0 (tVar 1) (tCons (tTup (tCons (tVar 7) (tCons (tC (.str ("most" : Str))) tNil))) tNil)) (tCons (tOp (rI0 fun i j => .int (i - j)) (tCB (rSum K) (tCons (tVar 2) tNil)) (tOp (rIx K) (tVar 3) (tVar 7))) tNil)))))
    (tRet (tC (.bl false)))
    tNext)))
    (tRet (tCall (sp_law_alike K C) [] E0 (tCons (tCall (sp_law_told K C) [] E0 (tCons (tVar 1) tNil)) (tCons (tVar 4) tNil)))))))))))))))
section
variable {K : PySem.W.Frag} {C : Addr} {b : Bg} {P : Po}
theorem small50 {l : List Int} (h : ∀ x ∈ l, 1 ≤ x ∧ x ≤ 7000000) : ∀ v ∈ l, v.natAbs < 10 ^ 50 := fun v hv => by
  have := h v hv
  have e : (7000000 : Nat) < 10 ^ 50 := by decide
  omega
theorem okQ_small {ws qs : List Int} (h : okQ ws qs) : (∀ x ∈ ws, 1 ≤ x ∧ x ≤ 7000000) ∧ (∀ x ∈ qs, 1 ≤ x ∧ x ≤ 7000000) ∧ 1 ≤ ws.sum ∧ ws.sum ≤ 7000000 := by
  have hs := sum_bounds h.1 h.2.2.1
  exact ⟨fun x hx => by have := h.2.2.1 x hx; omega, fun x hx => by have := h.2.2.2 x hx; omega, hs⟩
theorem shown_dI {l : List Int} (hl : l.length ≤ 7) (h : ∀ v ∈ l, v.natAbs < 10 ^ 50) : (dI l).py.shown.length ≤ 439 := by
  have h1 := (shown_cost 9 (dI l) (dI_ok 8 l) (dI_sm h)).1
  have h2 := dI_cost l
  omega
theorem w_C_repr (cf : CF K C) {ws qs : List Int} (h : okQ ws qs) (k : P.rt (.str (cText ws qs))) : wps K b (t_C_repr K C) [.d (dC C ws qs)] P := by
  obtain ⟨s1, s2, _⟩ := okQ_small h
  have z1 := shown_dI h.1.2 (small50 s1)
  have z2 := shown_dI (Nat.le_trans h.2.1.2 (by decide)) (small50 s2)
  have c1 := dI_cost ws
  have c2 := dI_cost qs
  have l1 := h.1.2
  have l2 := h.2.1.2
  have q0 : ("Council(" : Str).length = 8 := by decide +kernel
  have q1 : (", " : Str).length = 2 := by decide +kernel
  have q2 : (")" : Str).length = 1 := by decide +kernel
  have sl : 10000 ≤ sizeLine := by decide
  unfold t_C_repr
  refine wps_ret (wpe_join (wpj_cons (wpe_str ⟨_, rfl, ?_, ?_⟩)))
  · rw [PySem.Str.empty_append, q0]; omega
  rw [PySem.Str.empty_append]
  refine wpj_cons (wpe_fmtD 9 (by decide) (wpe_fld cf.cl cf.nW (wpe_var (by rfl) ⟨_, _, _, rfl, look_w (C := C), _, rfl, dI_ok 8 ws, dI_sm (small50 s1), (show D.cost (dI ws) ≤ 10000000 by omega), _, rfl, ?_, ?_⟩)))
  · rw [PySem.Str.length_append, q0]
    show 8 + (dI ws).py.shown.length ≤ sizeLine
    omega
  refine wpj_cons (wpe_str ⟨_, rfl, ?_, ?_⟩)
  · rw [PySem.Str.length_append, PySem.Str.length_append, q0, q1]
    show 8 + (dI ws).py.shown.length + 2 ≤ sizeLine
    omega
  refine wpj_cons (wpe_fmtD 9 (by decide) (wpe_fld cf.cl cf.nQ (wpe_var (by rfl) ⟨_, _, _, rfl, look_q (C := C), _, rfl, dI_ok 8 qs, dI_sm (small50 s2), (show D.cost (dI qs) ≤ 10000000 by omega), _, rfl, ?_, ?_⟩)))
  · rw [PySem.Str.length_append, PySem.Str.length_append, PySem.Str.length_append, q0, q1]
    show 8 + (dI ws).py.shown.length + 2 + (dI qs).py.shown.length ≤ sizeLine
    omega
  refine wpj_cons (wpe_str ⟨_, rfl, ?_, wpj_nil k⟩)
  rw [PySem.Str.length_append, PySem.Str.length_append, PySem.Str.length_append, PySem.Str.length_append, q0, q1, q2]
  show 8 + (dI ws).py.shown.length + 2 + (dI qs).py.shown.length + 1 ≤ sizeLine
  omega
theorem mirQ_ok {ws qs : List Int} (h : okQ ws qs) : okQ ws (mirQ ws qs) := by
  obtain ⟨a1, a2, a3, a4⟩ := h
  refine ⟨a1, by unfold mirQ; rw [List.length_map]; exact a2, a3, fun q hq => ?_⟩
  unfold mirQ at hq
  obtain ⟨x, hx, rfl⟩ := List.mem_map.mp hq
  have := a4 x hx
  omega
theorem w_C_mirrored (cf : CF K C) {ws qs : List Int} (h : okQ ws qs) (k : P.rt (dC C ws (mirQ ws qs))) : wps K b (t_C_mirrored K C) [.d (dC C ws qs), .u] P := by
  unfold t_C_mirrored
  have l2 := h.2.1.2
  refine wps_ret (wpe_make (wpa_cons (wpe_fld cf.cl cf.nW (wpe_var (by rfl) ⟨_, _, _, rfl, look_w (C := C), ?_⟩))))
  refine wpa_cons (wpe_l (wpl_gen1 (R := fun j y => ∃ q, qs[j]? = some q ∧ y = .int (ws.sum + 1 - q)) (wpi_list (wpe_fld cf.cl cf.nQ (wpe_var (by rfl) ⟨_, _, _, rfl, look_q (C := C), ?_⟩)))))
  refine ⟨_, rfl, by rw [List.length_map]; omega, fun j d hd => ?_, fun acc hl hR => ?_⟩
  · obtain ⟨q, hq, rfl, _⟩ := map_mem hd
    refine wpe_op (wpe_op (wpe_methx (wpe_var (by rfl) ⟨_, _, rfl, no_total, wpa_nil ⟨(ws, qs), rfl, True.intro, fun y hy => ?_⟩⟩)))
    subst hy
    exact wpe_int (rd_I0i (wpe_var (by rfl) (rd_I0i ⟨q, hq, rfl⟩)))
  · rw [List.length_map] at hl
    have e : acc = (mirQ ws qs).map D.int := by
      refine list_of_get (by rw [hl]; simp [mirQ]) fun j y z => ?_
      obtain ⟨q, hq, rfl⟩ := hR j y z
      unfold mirQ
      rw [List.getElem?_map, List.getElem?_map, hq]; rfl
    subst e
    exact wpa_nil ⟨ws, mirQ ws qs, rfl, mirQ_ok h, k⟩
theorem w_law_told (cf : CF K C) {ws qs : List Int} (h : okQ ws qs) : wpm K b (tLst (tCons (tMeth C "weights" (sp_C_weights K C) [] E0 (tVar 0) tNil) (tCons (tMeth C "quotas" (sp_C_quotas K C) [] E0 (tVar 0) tNil) (tCons (tMeth C "total" (sp_C_total K C) [] E0 (tVar 0) tNil) (tCons (tMeth C "width" (sp_C_width K C) [] E0 (tVar 0) tNil) (tCons (tCB (GL.rLenI C (sp_C_len K C) E0) (tCons (tVar 0) tNil)) tNil)))))) [.d (dC C ws qs)] ws qs [ws.sum, (qs.length : Nat), (ws.length : Nat)] := by
  have l1 := h.1.2
  refine wpm_lst (show 3 ≤ 1000 by decide) (wpl_methy (wpe_var (by rfl) ⟨_, _, rfl, no_weights, wpa_nil ⟨(ws, qs), rfl, True.intro, fun es he => ⟨he, ?_⟩⟩⟩))
  refine wpl_methy (wpe_var (by rfl) ⟨_, _, rfl, no_quotas, wpa_nil ⟨(ws, qs), rfl, True.intro, fun es he => ⟨he, ?_⟩⟩⟩)
  refine wpa_cons (wpe_methx (wpe_var (by rfl) ⟨_, _, rfl, no_total, wpa_nil ⟨(ws, qs), rfl, True.intro, fun y hy => ?_⟩⟩))
  subst hy
  refine wpa_cons (wpe_methx (wpe_var (by rfl) ⟨_, _, rfl, no_width, wpa_nil ⟨(ws, qs), rfl, True.intro, fun y hy => ?_⟩⟩))
  subst hy
  refine wpa_cons (wpe_cb (wpa_cons (wpe_var (by rfl) (wpa_nil (rc_lenI ⟨(ws, qs), rfl, True.intro, fun z hz => ?_⟩)))))
  subst hz
  exact ⟨_, rfl, (show (0 : Int) ≤ (ws.length : Nat) ∧ ((ws.length : Nat) : Int) < 2 ^ 63 by omega), wpa_nil rfl⟩
theorem mx_data {ws qs : List Int} (h : okQ ws qs) : D.ok 9 (dMx ws qs [ws.sum, (qs.length : Nat), (ws.length : Nat)]) = true ∧ D.sm (dMx ws qs [ws.sum, (qs.length : Nat), (ws.length : Nat)]) = true ∧ (dMx ws qs [ws.sum, (qs.length : Nat), (ws.length : Nat)]).cost ≤ 10000000 := by
  obtain ⟨s1, s2, s3⟩ := okQ_small h
  have l1 := h.1.2
  have l2 := h.2.1.2
  have e50 : (7000000 : Nat) < 10 ^ 50 := by decide
  have mem : ∀ d ∈ (dI ws :: dI qs :: [ws.sum, ((qs.length : Nat) : Int), ((ws.length : Nat) : Int)].map D.int), d = dI ws ∨ d = dI qs ∨ ∃ i : Int, d = .int i ∧ i.natAbs ≤ 7000000 := fun d hd => by
    simp only [List.map_cons, List.map_nil, List.mem_cons, List.not_mem_nil, or_false] at hd
    rcases hd with rfl | rfl | rfl | rfl | rfl
    · exact .inl rfl
    · exact .inr (.inl rfl)
    · exact .inr (.inr ⟨_, rfl, by omega⟩)
    · exact .inr (.inr ⟨_, rfl, by omega⟩)
    · exact .inr (.inr ⟨_, rfl, by omega⟩)
  refine ⟨?_, ?_, ?_⟩
  · unfold dMx D.ok
    exact okA_of fun d hd => by
      rcases mem d hd with rfl | rfl | ⟨i, rfl, _⟩
      · exact dI_ok 7 ws
      · exact dI_ok 7 qs
      · rfl
  · unfold dMx D.sm
    exact smA_of fun d hd => by
      rcases mem d hd with rfl | rfl | ⟨i, rfl, hi⟩
      · exact dI_sm (small50 s1)
      · exact dI_sm (small50 s2)
      · unfold D.sm; exact decide_eq_true (by omega)
  · have := costA_le (c := 439) (ds := dI ws :: dI qs :: [ws.sum, ((qs.length : Nat) : Int), ((ws.length : Nat) : Int)].map D.int) fun d hd => by
      have c1 := dI_cost ws
      have c2 := dI_cost qs
      rcases mem d hd with rfl | rfl | ⟨i, rfl, hi⟩
      · omega
      · omega
      · unfold D.cost; omega
    rw [show (dI ws :: dI qs :: [ws.sum, ((qs.length : Nat) : Int), ((ws.length : Nat) : Int)].map D.int).length = 5 from rfl] at this
    unfold dMx D.cost
    omega
theorem okI (i : Int) : D.ok 9 (.int i) = true := rfl
theorem int_data {i : Int} (h : i.natAbs ≤ 20000000) : D.ok 9 (.int i) = true ∧ D.sm (.int i) = true ∧ (D.int i).cost ≤ 10000000 := by
  have e50 : (20000000 : Nat) < 10 ^ 50 := by decide
  refine ⟨rfl, ?_, ?_⟩
  · unfold D.sm; exact decide_eq_true (by omega)
  · unfold D.cost; omega
theorem two_data {ws qs : List Int} (h : okQ ws qs) : D.ok 9 (.lst [dI ws, dI qs]) = true ∧ D.sm (.lst [dI ws, dI qs]) = true ∧ (D.lst [dI ws, dI qs]).cost ≤ 10000000 := by
  obtain ⟨s1, s2, s3⟩ := okQ_small h
  have l1 := h.1.2
  have l2 := h.2.1.2
  refine ⟨?_, ?_, ?_⟩
  · unfold D.ok
    exact okA_of fun d hd => by
      simp only [List.mem_cons, List.not_mem_nil, or_false] at hd
      rcases hd with rfl | rfl
      · exact dI_ok 7 ws
      · exact dI_ok 7 qs
  · unfold D.sm
    exact smA_of fun d hd => by
      simp only [List.mem_cons, List.not_mem_nil, or_false] at hd
      rcases hd with rfl | rfl
      · exact dI_sm (small50 s1)
      · exact dI_sm (small50 s2)
  · have := costA_le (c := 439) (ds := [dI ws, dI qs]) fun d hd => by
      have c1 := dI_cost ws
      have c2 := dI_cost qs
      simp only [List.mem_cons, List.not_mem_nil, or_false] at hd
      rcases hd with rfl | rfl <;> omega
    rw [show [dI ws, dI qs].length = 2 from rfl] at this
    unfold D.cost
    omega
theorem w_law_right (hb : True) (cf : True) {ws qs : List Int} (h : okQ ws qs) (k : P.rt (.bl true)) : wps K b (t_law_council_right K C) [.d (dPt (ws, qs)), .d (dC C ws qs), .u, .u, .u, .u, .u, .u] P := by
  have l1 := h.1.2
  have l2 := h.2.1.2
  obtain ⟨s1, s2, s3, s4⟩ := okQ_small h
  have z1 := shown_dI l1 (small50 s1)
  have z2 := shown_dI (Nat.le_trans l2 (by decide)) (small50 s2)
  have c1 := dI_cost ws
  have c2 := dI_cost qs
  have q0 : ("Council(" : Str).length = 8 := by decide +kernel
  have q1 : (", " : Str).length = 2 := by decide +kernel
  have q2 : (")" : Str).length = 1 := by decide +kernel
  have sl : 10000 ≤ sizeLine := by decide
  obtain ⟨m1, m2, m3⟩ := mx_data h
  obtain ⟨t1, t2, t3⟩ := two_data h
  unfold t_law_council_right
  refine wps_seq (wps_asgt [2, 3] (wpe_var (by rfl) (wpg_tup (by rfl) (wpgs_cons (wpg_name (by simp) (wpgs_cons (wpg_name (by simp) (wpgs_nil ?_))))))))
  refine wps_seq (wps_asg (wpe_l (wpl_lst (wpa_cons (wpe_var (by rfl) (wpa_cons (wpe_var (by rfl) (wpa_cons (wpe_cb (wpa_cons (wpe_var (by rfl) (wpa_nil (rc_sum ?_)))))))))))))
  refine wpa_cons (wpe_cb (wpa_cons (wpe_var (by rfl) (wpa_nil (rc_lenL ?_)))))
  refine wpa_cons (wpe_cb (wpa_cons (wpe_var (by rfl) (wpa_nil (rc_lenL ?_)))))
  rw [List.length_map, List.length_map]
  refine wpa_nil ⟨len_le rfl, ?_⟩
  show wps K b _ [.d (dPt (ws, qs)), .d (dC C ws qs), .d (dI ws), .d (dI qs), .d (dMx ws qs [ws.sum, (qs.length : Nat), (ws.length : Nat)]), .u, .u, .u] _
  generalize hM : dMx ws qs [ws.sum, (qs.length : Nat), (ws.length : Nat)] = M at m1 m2 m3
  have HM : Hold K b M (MxR b ws qs [ws.sum, (qs.length : Nat), (ws.length : Nat)]) := hM ▸ mx_hold ..
  refine wpsM_asg (wpm_call (wpa_cons (wpe_var (by rfl) (wpa_nil ⟨(ws, qs), rfl, h, rfl, rfl, rfl⟩)))) ?_ (by simp)
  refine wpsR_if HM (ho_of (by rfl)) (wpt_or (wpt_not (wpt_B (wpe_callx (wpa_cons (wpe_var (by rfl) (wpa_cons (wpe_var (by rfl) (wpa_nil ⟨M, rfl, ⟨m1, m2, m3⟩, fun x hx => ⟨true, hx, ifF ?_⟩⟩)))))))))
  refine wpt_test (wpe_op (wpe_cb (wpa_cons (wpe_var (by rfl) (wpa_nil (rc_reprI ⟨(ws, qs), rfl, h, fun z hz => ?_⟩))))))
  subst hz
  refine ⟨_, rfl, ?_⟩
  refine wpe_op (wpe_op (wpe_op (wpe_op (wpe_str (wpe_cb (wpa_cons (wpe_var (by rfl) (wpa_nil (rc_repr 9 (by decide) (dI_ok 8 ws) (dI_sm (small50 s1)) (show D.cost (dI ws) ≤ 10000000 by omega) ?_)))))))))
  refine rd_addS (by rw [q0]; show 8 + (dI ws).py.shown.length ≤ sizeLine; omega) ?_
  refine wpe_str (rd_addS (by rw [PySem.Str.length_append, q0, q1]; show 8 + (dI ws).py.shown.length + 2 ≤ sizeLine; omega) ?_)
  refine wpe_cb (wpa_cons (wpe_var (by rfl) (wpa_nil (rc_repr 9 (by decide) (dI_ok 8 qs) (dI_sm (small50 s2)) (show D.cost (dI qs) ≤ 10000000 by omega) ?_))))
  refine rd_addS (by rw [PySem.Str.length_append, PySem.Str.length_append, q0, q1]; show 8 + (dI ws).py.shown.length + 2 + (dI qs).py.shown.length ≤ sizeLine; omega) ?_
  refine wpe_str (rd_addS (by rw [PySem.Str.length_append, PySem.Str.length_append, PySem.Str.length_append, q0, q1, q2]; show 8 + (dI ws).py.shown.length + 2 + (dI qs).py.shown.length + 1 ≤ sizeLine; omega) ?_)
  refine rd_neS ⟨_, rfl, ?_⟩
  refine ⟨congrArg (fun x => !x) (decide_eq_true (show V.str (cText (ws, qs).1 (ws, qs).2) = V.str _ from rfl)), ?_⟩
  show wpsR K b 5 (MxR b ws qs [ws.sum, (qs.length : Nat), (ws.length : Nat)]) _ [.d (dPt (ws, qs)), .d (dC C ws qs), .d (dI ws), .d (dI qs), .d M, .u, .u, .u] P
  refine wpsR_asg HM (by decide) (wpe_l (wpl_lst (wpa_cons (wpe_l (wpl_methy (wpe_var (by rfl) ⟨_, _, rfl, no_weights, wpa_nil ⟨(ws, qs), rfl, True.intro, fun es he => ?_⟩⟩))))))
  subst he
  refine wpa_cons (wpe_l (wpl_methy (wpe_var (by rfl) ⟨_, _, rfl, no_quotas, wpa_nil ⟨(ws, qs), rfl, True.intro, fun es he => ?_⟩⟩)))
  subst he
  refine wpa_nil ⟨len_le rfl, ?_⟩
  refine wpsR_drop HM (wpe_appT (wpl_methy (wpe_var (by rfl) ⟨_, _, rfl, no_weights, wpa_nil ⟨(ws, qs), rfl, True.intro, fun es he => ?_⟩⟩)))
  subst he
  refine ⟨by rw [List.length_map]; show ws.length < 100000; omega, ?_⟩
  refine wpsR_drop HM (wpe_clrT (wpl_methy (wpe_var (by rfl) ⟨_, _, rfl, no_quotas, wpa_nil ⟨(ws, qs), rfl, True.intro, fun es he => ?_⟩⟩)))
  refine wpsM_app (ho_of (by rfl)) (by omega) (wpsM_clr (ho_of (by rfl)) ?_)
  refine wps_seq (wps_if (wpt_not (wpt_B (wpe_callx (wpa_cons (wpe_var (by rfl) (wpa_cons (wpe_l (wpl_lst (wpa_cons (wpe_var (by rfl) (wpa_cons (wpe_var (by rfl) (wpa_nil ⟨len_le rfl, ?_⟩))))))))))))))
  refine wpa_nil ⟨.lst [dI ws, dI qs], rfl, ⟨t1, t2, t3⟩, fun x hx => ⟨true, hx, ifF (wps_next ?_)⟩⟩
  refine wps_seq (wps_for [7] (wpi_rng1 (wpa_cons (wpe_cb (wpa_cons (wpe_var (by rfl) (wpa_nil (rc_lenL ?_))))))))
  rw [List.length_map]
  refine wpa_nil ⟨_, rfl, by omega, by omega, fun i E => ∃ a7, E = [.d (dPt (ws, qs)), .d (dC C ws qs), .d (dI ws), .d (dI qs), .d M, .u, .d (.lst [dI ws, dI qs]), a7], ⟨_, rfl⟩, fun c d E hd hI => ?_, fun E hI => ?_⟩
  · obtain ⟨a7, rfl⟩ := hI
    obtain ⟨hc, rfl⟩ := rangeD_at hd
    rw [Int.toNat_natCast] at hc
    refine wpg_name (by simp) ?_
    rw [Int.zero_add]
    have hq : 1 ≤ rget qs (c : Nat) ∧ rget qs (c : Nat) ≤ 7000000 := by
      have e : rget qs (c : Nat) = qs[c] := by unfold rget; rw [Int.toNat_natCast, List.getD, List.getElem?_eq_getElem hc]; rfl
      rw [e]
      exact s2 _ (List.getElem_mem hc)
    refine wps_seq (wps_if (wpt_not (wpt_B (wpe_callx (wpa_cons (wpe_methx (wpe_var (by rfl) ⟨_, _, rfl, no_allowance, wpa_cons (wpe_tup (wpa_cons (wpe_var (by rfl) (wpa_cons (wpe_str (wpa_nil ⟨len_le rfl, ?_⟩))))))⟩)))))))
    refine wpa_nil ⟨((ws, qs), ((c : Nat) : Int), false), rfl, ⟨(show (0 : Int) ≤ ((c : Nat) : Int) by omega), (show ((c : Nat) : Int) < qs.length by omega)⟩, fun y hy => ?_⟩
    subst hy
    refine wpa_cons (wpe_op (wpe_op (wpe_var (by rfl) (wpe_var (by rfl) (rd_ixl (rget_at (by omega) (by omega)) (wpe_int (rd_I0i ?_)))))))
    refine wpa_nil ⟨.int (rget qs (c : Nat) - 1), rfl, int_data (by omega), fun x hx => ⟨true, hx, ifF (wps_next ?_)⟩⟩
    refine wps_if (wpt_not (wpt_B (wpe_callx (wpa_cons (wpe_methx (wpe_var (by rfl) ⟨_, _, rfl, no_allowance, wpa_cons (wpe_tup (wpa_cons (wpe_var (by rfl) (wpa_cons (wpe_str (wpa_nil ⟨len_le rfl, ?_⟩))))))⟩))))))
    refine wpa_nil ⟨((ws, qs), ((c : Nat) : Int), true), rfl, ⟨(show (0 : Int) ≤ ((c : Nat) : Int) by omega), (show ((c : Nat) : Int) < qs.length by omega)⟩, fun y hy => ?_⟩
    subst hy
    refine wpa_cons (wpe_op (wpe_cb (wpa_cons (wpe_var (by rfl) (wpa_nil (rc_sum (wpe_op (wpe_var (by rfl) (wpe_var (by rfl) (rd_ixl (rget_at (by omega) (by omega)) (rd_I0i ?_)))))))))))
    exact wpa_nil ⟨.int (ws.sum - rget qs (c : Nat)), rfl, int_data (by omega), fun x hx => ⟨true, hx, ifF (wps_next ⟨_, rfl⟩)⟩⟩
  · obtain ⟨a7, rfl⟩ := hI
    refine wps_ret (wpe_callx (wpa_cons (wpe_m (wpm_call (wpa_cons (wpe_var (by rfl) (wpa_nil ⟨(ws, qs), rfl, h, rfl, rfl, rfl⟩)))) ?_)))
    rw [hM]
    exact wpa_cons (wpe_var (by rfl) (wpa_nil ⟨M, rfl, ⟨m1, m2, m3⟩, fun x hx => hx ▸ k⟩))
variable {vs : List V} {H : Hp} {Q : VK} {EE : XK}
theorem ln_C_repr (h : sp_C_repr K C vs H Q EE) : vs.length = 1 := ln_x h fun _ => rfl
theorem ln_C_mirrored (h : sp_C_mirrored K C vs H Q EE) : vs.length = 1 := ln_x h fun _ => rfl
theorem ln_law_told (h : sp_law_told K C vs H Q EE) : vs.length = 1 := ln_m h fun _ => rfl
theorem ln_law_council_right (h : sp_law_council_right K C vs H Q EE) : vs.length = 2 := ln_x h fun _ => rfl
theorem r_C_repr (cf : CF K C) (h : sp_C_repr K C vs H Q EE) : t_C_repr K C (De Q) (L2.start ["self"] vs) H := r_x2 (N := ["self"]) h (fun b a hp => w_C_repr cf hp rfl)
theorem r_C_mirrored (cf : CF K C) (h : sp_C_mirrored K C vs H Q EE) : t_C_mirrored K C (De Q) (L2.start ["self", "quota"] vs) H := r_x2 (N := ["self", "quota"]) h (fun b a hp => w_C_mirrored cf hp rfl)
theorem r_law_told (cf : CF K C) (h : sp_law_told K C vs H Q EE) : t_law_told K C (De Q) (L2.start ["council"] vs) H := by
  obtain ⟨b, F, a, w, d, hp, k⟩ := h
  unfold t_law_told
  exact w_law_told cf hp H F H _ w (envD_start (N := ["council"]) (H0 := H) d) _ fun v F' H' s w' N => k v F' H' s w' N
theorem r_law_council_right (cf : CF K C) (h : sp_law_council_right K C vs H Q EE) : t_law_council_right K C (De Q) (L2.start ["parts", "council", "weights", "quotas", "due", "found", "first", "column"] vs) H :=
  r_x2 (N := ["parts", "council", "weights", "quotas", "due", "found", "first", "column"]) h (fun b a hp => w_law_right True.intro True.intro (ws := a.1) (qs := a.2) hp rfl)
end
end DL

namespace PySem.W
open PySem PySem.Calls PyProof.Rows Builtin
section
variable {prog : Program} {w : World} {A : Around} {E : Value → Shared → Prop} {s : Shared} {K : Frag} {x C L f : Addr} {h₀ : Heap} {m : Str → Option Value} {ox : Obj} {od : Option Obj} {name : Str} {b tb : Value}
theorem ifBound_B {M : Model} {id : String} {args : List Value} {Q : Option Value → Shared → Prop} (X : K.In s.heap) (I : InstAt s.heap x ox C od) (hs : findIn K (.ref C) name = some (some (.builtin id))) (hb : bindSpecial (.builtin id) (.ref x) = pure (.builtin id, [.ref x]))
    (h : wpAny M A (call (.builtin id) (.ref x :: args)) (fun v => Q (some v)) E s) : wpAny M A (callSpecialIfBound? (.ref x) name args) Q E s := by
  simp only [callSpecialIfBound?, bindSpecialIfBound?]
  refine wpAny_holding (wpAny_bind (wpAny_bind (wpAny_bind (I.type.here ((looks_findIn X hs).here ?_)))))
  simp only [hb]
  refine wpAny_bind (wpAny_askSetting (wpAny_ite ?_))
  have fin : wpAny M A (call (.builtin id) ([.ref x] ++ args) >>= fun v => pure (some v)) Q E s := wpAny_bind (wpAny_mono h (fun v s' h' => wpAny_pure h') fun _ _ h' => h')
  split
  · exact wpAny_bind (wpAny_pure (wpAny_pure fin))
  · exact wpAny_tryCatch (wpAny_bind (wpAny_pure (wpAny_pure fin)))
/-- x != b, x of a class with an own __eq__ and object's __ne__ -/
theorem ne_own {Q : Value → Shared → Prop} (hu : A.units + 2 < cLine) (F : Fr h₀ L s.heap m) (X₀ : K.In h₀) (I : InstAt s.heap x ox C od) (hb : Looks (model prog w) s.heap (typeOf b) tb) (hn : notFirst K C tb = true)
    (he : findIn K (.ref C) "__eq__" = some (some (.ref f))) (hf : isFn K (.ref f) = true) (hne : findIn K (.ref C) "__ne__" = some (some (.builtin "object.__ne__"))) (hm : mroIn K C (.type "object") = some true)
    (h : wpAny (model prog w) A.in1 (call (.ref f) [.ref x, b]) (fun v s' => ∃ c, v = .bool c ∧ Q (.bool (!c)) s') E s) : wpAny (model prog w) A (richCompare .NotEq (.ref x) b) Q E s := by
  have X := X₀.keeps F.keep
  have FB := PySem.F.cmp_object
  have sub : Looks (model prog w) s.heap (isInstance (.ref x) (.type "object")) true := I.type.andThen (looks_mroIn X hm)
  have entry : ∀ {Q : Fin → Shared → Prop}, wpAny (model prog w) A.in1 (call (.ref f) [.ref x, b]) (fun v s' => ∃ c, v = .bool c ∧ Q (.done (.ret (.bool (!c)))) s') E s → wpAny (model prog w) A.in1 (Builtin.«object.__ne__» ⟨[.ref x, b], []⟩) Q E s := by
    intro Q hcall
    unfold Builtin.«object.__ne__»
    refine wpAny_bind (m := slotArgs "__ne__" 1 _) (wpAny_pure ?_)
    refine wpAny_bind (wpAny_cRoomFor (by show A.units + 1 < cLine; omega) ?_)
    refine wpAny_bind (m := callSpecialIfBound? (.ref x) (Str.ofString "__eq__") [b]) (ifBound_K X I he hf (wpAny_mono hcall (fun r s' hr => ?_) fun _ _ e => e))
    obtain ⟨c, rfl, hq⟩ := hr
    exact wpAny_bind (wpAny_truthy_bool (wpAny_pure hq))
  have one : wpAny (model prog w) A (tryCompare (.ref x) (cmpInfo .NotEq).2.1 b) (fun r s' => ∃ v, r = some v ∧ Q v s') E s := by
    unfold tryCompare
    refine wpAny_bind (ifBound_B X I hne (FB.ne.bind _) (wpAny_call (codeAny_call_builtin FB.ne.plain PySem.F.cmpEntry_ne (check_slot PySem.F.cmpKind_ne PySem.F.cmpSplit_ne sub (PySem.F.cmpArgs_ne _ _) (entry (wpAny_mono h (fun v s' hv => ?_) fun _ _ e => e))))))
    obtain ⟨c, rfl, hq⟩ := hv
    exact ⟨c, rfl, wpAny_pure ⟨_, rfl, hq⟩⟩
  unfold richCompare
  simp only [oneThing_ref]
  refine wpAny_holding (wpAny_bind (wpAny_cRoomFor (by omega) ?_))
  refine wpAny_bind (I.type.here (wpAny_bind (hb.here ?_)))
  split
  · rename_i q
    have e : subIn K tb (.ref C) = some false := by
      rcases Bool.or_eq_true_iff.mp hn with e | e
      · rw [beq_iff_eq.mp e] at q; simp at q
      · exact beq_iff_eq.mp e
    refine wpAny_bind ((looks_subIn X e).here ?_)
    simp only [Bool.false_eq_true, if_false]
    refine wpAny_bind (wpAny_mono one (fun r s' z => ?_) fun _ _ e => e)
    obtain ⟨v, rfl, hq⟩ := z
    exact wpAny_pure hq
  · refine wpAny_bind (wpAny_pure ?_)
    simp only [Bool.false_eq_true, if_false]
    refine wpAny_bind (wpAny_mono one (fun r s' z => ?_) fun _ _ e => e)
    obtain ⟨v, rfl, hq⟩ := z
    exact wpAny_pure hq
end
end PySem.W

namespace GL
open PySem PySem.Spec PyProof.Rows L2 DL
section
variable {X : Cx} {k : Nat} {f C : Addr} {fd : FuncData} {ps : List Str} {sp : Sp} {E : XK}
theorem looks_cls {M : Model} {h : Heap} {a : Addr} {o : Obj} (e : h.get? a = some o) : PySem.W.Looks M h (typeOf (.ref a)) o.cls := fun A Q E s k q => PySem.wpAny_typeOf_ref (k _ _ e) q
theorem looks_ty {M : Model} {pins : List (Addr × Obj)} {σ : L2.St} {H : Hp} {s : Shared} {y : V} {u t : Value} (I : L2.Inv X pins σ H s) (ry : RelV y u) (ty : TyOf X.K H y t) : PySem.W.Looks M s.heap (typeOf u) t := by
  cases ty with
  | non => cases (show u = Value.none from ry); exact .of_pure rfl
  | bl y => cases (show u = Value.bool y from ry); exact .of_pure rfl
  | int i => obtain ⟨t, q⟩ := (show ∃ t, u = Value.int i t from ry); cases q; exact .of_pure rfl
  | str y => obtain ⟨t, q⟩ := (show ∃ t, u = Value.str y t from ry); cases q; exact .of_pure rfl
  | flt y => obtain ⟨t, q⟩ := (show ∃ t, u = Value.float y t from ry); cases q; exact .of_pure rfl
  | @lst a xs ea =>
    cases (show u = Value.ref a from ry)
    obtain ⟨_, _, n, _, h1⟩ := (show ObjOk X.prog X.w H s.heap a (.lst xs) from I.hok a _ ea)
    exact looks_cls h1
  | @frz a ob xs ea =>
    cases (show u = Value.ref a from ry)
    obtain ⟨_, _, _, n, _, h1⟩ := (show ObjOk X.prog X.w H s.heap a (.frz ob (.lst xs)) from I.hok a _ ea)
    exact looks_cls h1
  | @tup a xs ea =>
    cases (show u = Value.ref a from ry)
    obtain ⟨_, _, _, p⟩ := (show ObjOk X.prog X.w H s.heap a (.tup xs) from I.hok a _ ea)
    obtain ⟨o, h1, h2, _⟩ := p
    exact h2 ▸ looks_cls h1
  | @dK a kvs ea =>
    cases (show u = Value.ref a from ry)
    obtain ⟨_, _, vs, _, p⟩ := (show ObjOk X.prog X.w H s.heap a (.dK kvs) from I.hok a _ ea)
    obtain ⟨o, es, ep, h1, h2, _⟩ := p
    exact h2.1 ▸ looks_cls h1
  | @dT a kvs ea =>
    cases (show u = Value.ref a from ry)
    obtain ⟨_, _, xs, _, o, es, ep, h1, h2, _⟩ := (show ObjOk X.prog X.w H s.heap a (.dT kvs) from I.hok a _ ea)
    exact h2.1 ▸ looks_cls h1
  | @ins a C dx fs ea cl ha hn htk hm =>
    cases (show u = Value.ref a from ry)
    obtain ⟨mA, O, _⟩ := ins_get I.hok ea
    obtain ⟨od, J, _⟩ := O.look
    exact J.type
/-- a value's type, tuples that stand still too -/
inductive TyT (K : PySem.W.Frag) (H : Hp) : V → Value → Prop where
  | base {y : V} {t : Value} (h : TyOf K H y t) : TyT K H y t
  | tup {a : Addr} {xs : List V} (h : SqT K H a xs) : TyT K H (.ref a) (.type "tuple")
theorem looks_tt {M : Model} {pins : List (Addr × Obj)} {σ : L2.St} {H : Hp} {s : Shared} {y : V} {u t : Value} (I : L2.Inv X pins σ H s) (ry : RelV y u) (ty : TyT X.K H y t) : PySem.W.Looks M s.heap (typeOf u) t := by
  cases ty with
  | base h => exact looks_ty I ry h
  | @tup a xs h0 =>
    rcases h0 with (h | ⟨ob, h⟩) | ⟨o, its, n, hk, hc, _⟩
    · exact looks_ty I ry (.tup h)
    · cases (show u = Value.ref a from ry)
      obtain ⟨_, _, _, _, o, h1, h2, _⟩ := (show ObjOk X.prog X.w H s.heap a (.frz ob (.tup xs)) from I.hok a _ h)
      exact h2 ▸ looks_cls h1
    · cases (show u = Value.ref a from ry)
      exact hc ▸ looks_cls (I.kIn a o hk)
/-- x == y, x an instance whose class has an own __eq__, y of a type that does not come first -/
def rOwnX (K : PySem.W.Frag) (C : Addr) (sp : Sp) (E : XK) : R2 := fun x y H Q => ∃ a dx fs t, x = .ref a ∧ H a = some (.ins C dx fs) ∧ TyT K H y t ∧ PySem.W.notFirst K C t = true ∧ sp [x, y] H (fun v H' => ∃ c, v = .bl c ∧ Q (.bl c) H') E
theorem op_ownX (F : FnG X.prog X.w X.K X.mg X.base k f fd ps sp) (hg : X.A.guards = some []) (hr : Room k X.A) (hb : Binds X.K fd ps []) (hx : Passes CX0 X E)
    (hm : Meth X.K C "__eq__" f) : OpR X (compareOp .Eq) (rOwnX X.K C sp E) := by
  intro pins s σ H x y v u Q I rx ry h
  obtain ⟨a, dx, fs, t, rfl, ha, ty, hn, q⟩ := h
  cases (show v = Value.ref a from rx)
  obtain ⟨mA, J, _⟩ := ins_get I.hok ha
  obtain ⟨od, J, _⟩ := J.look
  obtain ⟨m, hF⟩ := I.fr
  show wpAny _ _ (richCompare .Eq _ _) _ _ _
  refine PySem.W.cmp_K (op := .Eq) hr.units0 hF I.ok.mod.kin J (looks_tt I ry ty) hn hm.at_ hm.fn ?_
  refine wpAny_mono (runG (us := [.ref a, u]) (vs := [.ref a, y]) F hg hr hb hx I (.cons rfl (.cons ry .nil)) q) (fun w s' z => ?_) fun _ _ x => x
  obtain ⟨z', H', I', rz, c, rfl, qz⟩ := z
  cases (show w = Value.bool c from rz)
  exact ⟨.bl c, H', I', rfl, qz⟩
/-- x != y of two instances of one class with an own __eq__ and object's __ne__ -/
def rNeI (C : Addr) (sp : Sp) (E : XK) : R2 := fun x y H Q => ∃ a dx fs b dy gs, x = .ref a ∧ y = .ref b ∧ H a = some (.ins C dx fs) ∧ H b = some (.ins C dy gs) ∧ sp [x, y] H (fun v H' => ∃ c, v = .bl c ∧ Q (.bl (!c)) H') E
theorem op_neI (F : FnG X.prog X.w X.K X.mg X.base k f fd ps sp) (hg : X.A.guards = some []) (hr : Room (k + 1) X.A) (hb : Binds X.K fd ps []) (hx : Passes CX0 X E)
    (hm : Meth X.K C "__eq__" f) (hne : PySem.W.findIn X.K (.ref C) "__ne__" = some (some (.builtin "object.__ne__"))) (ho : PySem.W.mroIn X.K C (.type "object") = some true) : OpR X (compareOp .NotEq) (rNeI C sp E) := by
  intro pins s σ H x y v u Q I rx ry h
  obtain ⟨a, dx, fs, b, dy, gs, rfl, rfl, ha, hb', q⟩ := h
  cases (show v = Value.ref a from rx)
  cases (show u = Value.ref b from ry)
  obtain ⟨mA, J, _⟩ := ins_get I.hok ha
  obtain ⟨mB, J', _⟩ := ins_get I.hok hb'
  obtain ⟨od, J, _⟩ := J.look
  obtain ⟨od', J', _⟩ := J'.look
  obtain ⟨m, hF⟩ := I.fr
  show wpAny _ _ (richCompare .NotEq _ _) _ _ _
  refine PySem.W.ne_own (tb := .ref C) (by have := hr.units; omega) hF I.ok.mod.kin J J'.type (by simp [PySem.W.notFirst]) hm.at_ hm.fn hne ho ?_
  refine wpAny_mono (runG1 (us := [.ref a, .ref b]) (vs := [.ref a, .ref b]) F hg hr hb hx I (.cons rfl (.cons rfl .nil)) q) (fun w s' z => ?_) fun _ _ x => x
  obtain ⟨z', H', I', rz, c, rfl, qz⟩ := z
  cases (show w = Value.bool c from rz)
  exact ⟨c, rfl, .bl (!c), H', I', rfl, qz⟩
end
end GL
namespace DL
open PySem PySem.Spec PyProof.Rows L2
section
variable {K : PySem.W.Frag} {b : Bg} {E : Env'} {ta te : TE} {P : Po} {C : Addr} {Φ : D → Prop} {F H : Hp}
/-- the types that are asked -/
def tyO : D → Option String
  | .non => some "NoneType" | .int _ => some "int" | .str _ => some "str" | .lst _ => some "list" | .tup _ => some "tuple" | _ => none
structure NoC (K : PySem.W.Frag) (C : Addr) : Prop where
  ty : PySem.W.typeIn K (.ref C) = some (.type "type")
  mro : PySem.W.mroIn K C (.type "object") = some true
  s1 : PySem.W.subIn K (.type "NoneType") (.ref C) = some false
  s2 : PySem.W.subIn K (.type "int") (.ref C) = some false
  s3 : PySem.W.subIn K (.type "str") (.ref C) = some false
  s4 : PySem.W.subIn K (.type "list") (.ref C) = some false
  s5 : PySem.W.subIn K (.type "tuple") (.ref C) = some false
theorem NoC.sub (n : NoC K C) {d : D} {S : String} (e : tyO d = some S) : PySem.W.subIn K (.type S) (.ref C) = some false := by
  cases d <;> cases e
  · exact n.s1
  · exact n.s2
  · exact n.s3
  · exact n.s4
  · exact n.s5
theorem NoC.first (n : NoC K C) {d : D} {S : String} (e : tyO d = some S) : PySem.W.notFirst K C (.type S) = true := by
  unfold PySem.W.notFirst
  rw [n.sub e]; simp
theorem NoC.kit (n : NoC K C) {d : D} {S : String} (e : tyO d = some S) : PySem.W.kitOne K (.type S) (.ref C) = some false := by
  have hc : (PySem.W.clsIn K C).isSome = true := by
    have h := n.mro
    unfold PySem.W.mroIn at h
    cases q : PySem.W.clsIn K C with
    | none => rw [q] at h; cases h
    | some c => rfl
  unfold PySem.W.kitOne
  rw [if_neg (by simp)]
  unfold PySem.W.kitCls
  dsimp only
  rw [n.ty, hc]
  show (if (true && (some (Value.type "type") == some (Value.type "type"))) = true then PySem.W.subIn K (.type S) (.ref C) else none) = some false
  rw [if_pos (by simp)]
  exact n.sub e
theorem tt_of {v : V} {d : D} {S : String} (w : Wd K b F H) (h : Dv K b F v d) (e : tyO d = some S) : GL.TyT K H v (.type S) := by
  cases h with
  | non => cases e; exact .base .non
  | bl c => cases e
  | int i => cases e; exact .base (.int _)
  | str x => cases e; exact .base (.str _)
  | lst z a => cases e; exact .base (.lst (w.ex _ _ z))
  | tup s a => cases e; exact .tup (exT w.ex s)
  | obj s a => cases e
  | bag s => cases e
  | fn a => cases e
theorem tx_of {v : V} {d : D} {S : String} (w : Wd K b F H) (h : Dv K b F v d) (e : tyO d = some S) : TyX K H v (.type S) := by
  cases tt_of w h e with
  | base g => exact .base g
  | tup g =>
    rcases g with (g1 | ⟨ob, g1⟩) | ⟨o, its, n, hk, hc, _⟩
    · exact .base (.tup g1)
    · exact .fTuple g1
    · exact .kTuple hk hc
theorem wpe_isiN (n : NoC K C) (h : wpe K b ta E fun x => ∃ S, tyO x = some S ∧ Φ (.bl false)) : wpe K b (tCB (rIsi K) (tCons ta (tCons (tC (.ref C)) tNil))) E Φ := fun H0 F H σ w e Q k =>
  h H0 F H σ w e _ fun v F1 H1 x s1 w1 d1 p1 => by
    obtain ⟨S, hS, q⟩ := p1
    exact ⟨v, .ref C, .type S, .ref C, false, rfl, .own C, tx_of w1 d1 hS, n.kit hS, k _ F1 H1 _ s1 w1 (.bl false) q⟩
theorem rd_ownX {α : Type} {EE : XK} {args : α → List D} {pre : Bg → α → Prop} {post : α → D → Prop} {ns : List Str} {ds : List D} {d : D} {S : String} (n : NoC K C) (hd : tyO d = some S)
    (h : ∃ a, [D.obj C ns ds, d] = args a ∧ pre b a ∧ ∀ z, post a z → ∃ c, z = .bl c ∧ Φ (.bl c)) : rd2 K b (GL.rOwnX K C (Sx K args pre post) EE) (.obj C ns ds) d Φ := fun F H v u w d1 d2 Q k => by
  obtain ⟨a, e, h1, h2⟩ := h
  have d1' := d1
  cases d1 with
  | @obj a1 _ dx fs _ s a' =>
    refine ⟨_, _, _, _, rfl, w.ex _ _ s, tt_of w d2 hd, n.first hd, b, F, a, w, e ▸ .cons d1' (.one d2), h1, fun v F' H' x st w' d p => ?_⟩
    obtain ⟨c, rfl, q⟩ := h2 x p
    cases d
    exact ⟨c, rfl, k _ F' H' _ st w' (.bl _) q⟩
theorem rd_neI {α : Type} {EE : XK} {args : α → List D} {pre : Bg → α → Prop} {post : α → D → Prop} {ns ms : List Str} {ds es : List D}
    (h : ∃ a, [D.obj C ns ds, D.obj C ms es] = args a ∧ pre b a ∧ ∀ z, post a z → ∃ c, z = .bl c ∧ Φ (.bl (!c))) : rd2 K b (GL.rNeI C (Sx K args pre post) EE) (.obj C ns ds) (.obj C ms es) Φ := fun F H v u w d1 d2 Q k => by
  obtain ⟨a, e, h1, h2⟩ := h
  have d1' := d1
  have d2' := d2
  cases d1 with
  | @obj a1 _ dx fs _ s a' =>
    cases d2 with
    | @obj a2 _ dy gs _ s2 a2' =>
      refine ⟨_, _, _, _, _, _, rfl, rfl, w.ex _ _ s, w.ex _ _ s2, b, F, a, w, e ▸ .cons d1' (.one d2'), h1, fun v F' H' x st w' d p => ?_⟩
      obtain ⟨c, rfl, q⟩ := h2 x p
      cases d
      exact ⟨c, rfl, k _ F' H' _ st w' (.bl _) q⟩
end
end DL

namespace DL
open PySem PySem.Spec PyProof.Rows L2
section
variable {K : PySem.W.Frag} {b : Bg} {E : Env'} {ta te : TE} {P : Po} {C : Addr} {Φ : D → Prop} {F H : Hp}
/-- a Council from two own lists, which stay one's own -/
theorem wpe_makeO {ok : List Int → List Int → Prop} {i j : Nat} {ws qs : List Int} {EE : XK} (hi : E[i]? = some (.o (ws.map D.int))) (hj : E[j]? = some (.o (qs.map D.int))) (hij : i ≠ j) (hok : ok ws qs) (q : Φ (dC C ws qs)) :
    wpe K b (tMake C (spInit K C ok) [] EE (tCons (tVar i) (tCons (tVar j) tNil))) E Φ := fun H0 F H σ w e Q k => by
  obtain ⟨p1, us1, a1, a2, a3, a4, a5, a6⟩ := e.own i _ hi
  obtain ⟨p2, us2, b1, b2, b3, b4, b5, b6⟩ := e.own j _ hj
  have h1 := a6.ints
  subst h1
  have h2 := b6.ints
  subst h2
  have h12 : p1 ≠ p2 := fun z => hij (e.inj i j _ _ p1 hi hj a1 (by rw [z]; exact b1))
  refine ⟨.ref p1, a1, .ref p2, b1, fun x dx hx hdx hne => ?_⟩
  have w1 := w.frz a3 a5 a4
  have f2 : (upd F p1 (.lst (ws.map V.int))) p2 = none := by rw [upd_ne (fun z => h12 z.symm)]; exact b3
  have w2 := w1.frz f2 b5 b4
  have x1 : p1 ≠ x := fun z => by rw [z, hx] at a5; cases a5
  have x2 : p2 ≠ x := fun z => by rw [z, hx] at b5; cases b5
  have y1 : p1 ≠ dx := fun z => by rw [z, hdx] at a5; cases a5
  have y2 : p2 ≠ dx := fun z => by rw [z, hdx] at b5; cases b5
  obtain ⟨w3, s3⟩ := w2.newO (o := .own x) hdx
  have hx2 : (upd H dx (.own x)) x = none := by rw [upd_ne (fun z => hne z.symm)]; exact hx
  obtain ⟨w4, s4⟩ := w3.newO (o := .ins C dx []) hx2
  have Gx := w2.outN hx
  refine ⟨b, _, x, dx, .ref p1, .ref p2, ws, qs, rfl, w4, Gx, w.nb hx, upd_same, .lst (by rw [upd_ne h12]; exact upd_same) (DvA.of_ints ws), .lst upd_same (DvA.of_ints qs), hok, fun F' H' c1 c2 ex keep out w' hI e1 e2 n1 n2 => ⟨rfl, ?_⟩⟩
  have exF : ∀ a o, F a = some o → F' a = some o ∧ a ≠ p1 ∧ a ≠ p2 := fun a o h => by
    have z1 : a ≠ p1 := ne_of_none h a3
    have z2 : a ≠ p2 := ne_of_none h b3
    exact ⟨ex a o (by rw [upd_ne z2, upd_ne z1]; exact h), z1, z2⟩
  let F2 : Hp := fun a => if a = p1 ∨ a = p2 then none else F' a
  have F2e : ∀ a, a ≠ p1 → a ≠ p2 → F2 a = F' a := fun a z1 z2 => by
    show (if a = p1 ∨ a = p2 then none else F' a) = F' a
    rw [if_neg (fun z => z.elim z1 z2)]
  have F2n : ∀ a, a = p1 ∨ a = p2 → F2 a = none := fun a z => by
    show (if a = p1 ∨ a = p2 then none else F' a) = none
    rw [if_pos z]
  have exF2 : Ex F F2 := fun a o h => by
    obtain ⟨z0, z1, z2⟩ := exF a o h
    rw [F2e a z1 z2]; exact z0
  have w5 : Wd K b F2 H' := by
    refine ⟨fun a o h => ?_, fun a c hb => ?_⟩
    · by_cases z : a = p1 ∨ a = p2
      · rw [F2n a z] at h; cases h
      · rw [F2e a (fun y => z (.inl y)) (fun y => z (.inr y))] at h
        exact w'.ex a o h
    · have B := w'.bag a c hb
      obtain ⟨ns, s1, s2⟩ := (w.bag a c hb).cell
      refine ⟨?_, B.bag, ⟨ns, exL exF2 s1, s2⟩⟩
      by_cases z : a = p1 ∨ a = p2
      · exact F2n a z
      · rw [F2e a (fun y => z (.inl y)) (fun y => z (.inr y))]; exact B.out
  have F'x : F' x = none := out x Gx (by rw [upd_same]; exact fun z => nomatch z)
  have F2x : F2 x = none := by rw [F2e x (fun z => x1 z.symm) (fun z => x2 z.symm)]; exact F'x
  have w6 := w5.frz F2x hI (w.nb hx)
  have lost : ∀ c : Addr, (upd (upd H dx (.own x)) x (.ins C dx [])) c = none → c ≠ p1 ∧ c ≠ p2 := fun c z => by
    refine ⟨fun y => ?_, fun y => ?_⟩
    · rw [y, upd_ne x1, upd_ne y1, a5] at z; cases z
    · rw [y, upd_ne x2, upd_ne y2, b5] at z; cases z
  have dv : ∀ (c : Addr) (ns : List Int), (upd (upd H dx (.own x)) x (.ins C dx [])) c = none → Dv K b F' (.ref c) (.lst (ns.map D.int)) → Dv K b (upd F2 x (.ins C dx [("_weights", .ref c1), ("_quotas", .ref c2)])) (.ref c) (.lst (ns.map D.int)) := fun c ns z d => by
    obtain ⟨z1, z2⟩ := lost c z
    cases d with
    | lst s a =>
      have ei := a.ints
      subst ei
      have hc : c ≠ x := fun y => by rw [y, upd_same] at z; cases z
      exact .lst (by rw [upd_ne hc, F2e c z1 z2]; exact s) (DvA.of_ints ns)
  refine k _ _ H' _ ⟨exF2.trans (Ex.new F2x), fun a o nb ha => ?_, fun a h1 h2 => ?_⟩ w6 (.obj (fs := [("_weights", .ref c1), ("_quotas", .ref c2)]) upd_same (.cons (dv c1 ws n1 e1) (.cons (dv c2 qs n2 e2) .nil))) q
  · have hax : a ≠ x := ne_of_none ha hx
    exact keep a o hax nb (by rw [upd_ne hax, upd_ne (ne_of_none ha hdx)]; exact ha)
  · have hax : a ≠ x := fun z => h2 (by rw [z]; exact hx)
    rw [upd_ne hax]
    by_cases z : a = p1 ∨ a = p2
    · exact F2n a z
    · have z1 : a ≠ p1 := fun y => z (.inl y)
      have z2 : a ≠ p2 := fun y => z (.inr y)
      rw [F2e a z1 z2]
      refine out a (by rw [upd_ne z2, upd_ne z1]; exact h1) ?_
      rw [upd_ne hax]
      by_cases y : a = dx
      · rw [y, upd_same]; exact fun z => nomatch z
      · rw [upd_ne y]; exact h2
theorem nlA_ints : ∀ ns : List Int, D.nlA (ns.map D.int) = true
  | [] => rfl
  | n :: ns => by
    show D.nlA (D.int n :: ns.map D.int) = true
    unfold D.nlA
    rw [nlA_ints ns]; rfl
/-! several own lists -/
theorem lend2 {H0 : Hp} {σ : L2.St} (i : Nat) {ds : List D} (hi : E[i]? = some (.o ds)) (w : Wd K b F H) (e : EnvD K b H0 F H σ E) :
    ∃ p us, H p = some (.lst us) ∧ ∃ G, Wd K b G H ∧ EnvD K b H0 G H σ (E.set i (.d (.lst ds))) ∧ ∀ G' H', Step b G H G' H' → Wd K b G' H' → ∃ F', Step b F H F' H' ∧ Wd K b F' H' ∧ (∀ a, a ≠ p → F' a = G' a) ∧ G' p = some (.lst us) := by
  obtain ⟨p, us, h1, h2, h3, h4, h5, h6⟩ := e.own i ds hi
  refine ⟨p, us, h5, upd F p (.lst us), w.frz h3 h5 h4, e.frz hi h1 h3 h6, fun G' H' s w' => ⟨fun a => if a = p then none else G' a, ⟨fun a o q => ?_, s.keep, fun a e1 e2 => ?_⟩, ⟨fun a o q => ?_, fun a c hb => ?_⟩, fun a z => ?_, s.ex p _ upd_same⟩⟩
  · show (if a = p then none else G' a) = some o
    rw [if_neg (ne_of_none q h3)]
    exact s.ex a o (by rw [upd_ne (ne_of_none q h3)]; exact q)
  · show (if a = p then none else G' a) = none
    by_cases ha : a = p
    · rw [if_pos ha]
    · rw [if_neg ha]; exact s.out a (by rw [upd_ne ha]; exact e1) e2
  · have q' : (if a = p then none else G' a) = some o := q
    by_cases ha : a = p
    · rw [if_pos ha] at q'; cases q'
    · rw [if_neg ha] at q'; exact w'.ex a o q'
  · have B := w'.bag a c hb
    have A := w.bag a c hb
    obtain ⟨ns, s1, s2⟩ := A.cell
    refine ⟨?_, B.bag, ⟨ns, exL (fun a o q => ?_) s1, s2⟩⟩
    · show (if a = p then none else G' a) = none
      by_cases ha : a = p
      · rw [if_pos ha]
      · rw [if_neg ha]; exact B.out
    · show (if a = p then none else G' a) = some o
      rw [if_neg (ne_of_none q h3)]
      exact s.ex a o (by rw [upd_ne (ne_of_none q h3)]; exact q)
  · show (if a = p then none else G' a) = G' a
    rw [if_neg z]
theorem wpl_lend2 (i : Nat) {ds : List D} {Φ : List D → Prop} (hi : E[i]? = some (.o ds)) (h : wpl K b te (E.set i (.d (.lst ds))) fun es => D.nlA es = true ∧ Φ es) : wpl K b te E Φ := fun H0 F H σ w e Q k => by
  obtain ⟨p, us, h5, G, w1, e1, back⟩ := lend2 i hi w e
  refine h H0 G H σ w1 e1 Q fun r vs G' H' es s w' n1 n2 n3 d q => ?_
  obtain ⟨F', s2, w2, b1, b2⟩ := back G' H' s w'
  have rp : r ≠ p := fun z => by rw [z, h5] at n1; cases n1
  exact k r vs F' H' es s2 w2 n1 (by rw [b1 r rp]; exact n2) n3 (DvA.keepT (keep_of b1 b2) es vs q.1 d) q.2
theorem wps_par3 {i j l : Nat} {tr : TA} (h : wpa K b tr E fun xs => ∃ x y z, xs = [x, y, z] ∧ P.nx (((E.set i (.d x)).set j (.d y)).set l (.d z))) : wps K b (tPar3 i j l tr) E P := fun F0 H0 F H σ s w e Dn k =>
  h H0 F H σ w e _ fun vs F1 H1 xs s1 w1 d1 p1 => by
    obtain ⟨x, y, z, rfl, q⟩ := p1
    cases d1 with
    | cons a d1 => cases d1 with
      | cons b' d1 => cases d1 with
        | cons c d1 =>
          cases d1
          exact ⟨_, _, _, rfl, k.nx _ F1 H1 _ s1.ex (s.trans s1 w) w1 ((((e.step s1).setD a).setD b').setD c) q⟩
theorem wps_parLL {i j : Nat} (hij : i ≠ j) (h : wpl K b ta E fun ds => wpl K b te E fun es => P.nx ((E.set i (.o ds)).set j (.o es))) : wps K b (tPar i j (tCons ta (tCons te tNil))) E P := fun F0 H0 F H σ s w e Dn k => by
  refine h H0 F H σ w e _ fun p vs F1 H1 ds s1 w1 n1 n2 n3 d2 q => q H0 F1 H1 σ w1 (e.step s1) _ fun r us F2 H2 es s2 w2 m1 m2 m3 d3 q2 => ⟨_, _, rfl, ?_⟩
  have s12 := s1.trans s2 w1
  have nb := w.nb n1
  have h2 : H2 p = some (.lst vs) := s2.keep p _ nb n3
  have f2 : F2 p = none := s2.out p n2 (by rw [n3]; exact fun z => nomatch z)
  have rH : H r = none := s1.fresh w1 m1
  have e2 := (e.step s12).setO (i := i) (p := p) (s.fresh w n1) f2 nb h2 (d2.up s2.ex) fun j' es hj' ej' z => by
    obtain ⟨p', us, h1, _, _, _, h5, _⟩ := e.own j' es ej'
    rw [h1] at z
    cases z
    rw [n1] at h5; cases h5
  have e3 := e2.setO (i := j) (p := r) (s.fresh w rH) m2 (w.nb rH) m3 d3 fun j' es hj' ej' z => by
    rcases set_get ej' with ⟨hij', z2⟩ | ⟨hne, z2⟩
    · rw [← hij', List.getElem?_set_self (by rw [e.len]; exact (by
        have := (List.getElem?_eq_some_iff.mp ej').1
        rw [List.length_set] at this
        rw [hij']; exact this))] at z
      cases z
      rw [n3] at m1; cases m1
    · obtain ⟨p', us, h1, _, _, _, h5, _⟩ := e.own j' es z2
      rw [List.getElem?_set_ne hne, h1] at z
      cases z
      rw [rH] at h5; cases h5
  exact k.nx _ F2 _ _ s12.ex (s.trans s12 w) w2 e3 q2
/-- xs[a], xs[c] = xs[c], xs[a] -/
theorem wps_swap {i a c m n : Nat} {x y : D} {ds : List D} (hi : E[i]? = some (.o ds)) (ha : E[a]? = some (.d (.int (m : Nat)))) (hc : E[c]? = some (.d (.int (n : Nat)))) (hx : ds[n]? = some x) (hy : ds[m]? = some y) (q : P.nx (E.set i (.o ((ds.set m x).set n y)))) :
    wps K b (tAsg (tTup (tCons (tOp (rIx K) (tVar i) (tVar c)) (tCons (tOp (rIx K) (tVar i) (tVar a)) tNil))) (gTup K 2 (gCons (gSub (tVar i) (tVar a) rSetL) (gCons (gSub (tVar i) (tVar c) rSetL) gNil)))) E P := fun F0 H0 F H σ s w e Dn k => by
  obtain ⟨p, us, h1, h2, h3, h4, h5, h6⟩ := e.own i ds hi
  obtain ⟨va, a1, a2⟩ := e.dat a _ ha
  obtain ⟨vc, c1, c2⟩ := e.dat c _ hc
  cases a2
  cases c2
  obtain ⟨vx, x1, x2⟩ := h6.get hx
  obtain ⟨vy, y1, y2⟩ := h6.get hy
  have hm : m < us.length := (List.getElem?_eq_some_iff.mp y1).1
  have hn : n < us.length := (List.getElem?_eq_some_iff.mp x1).1
  refine ⟨_, h1, _, c1, .inl ⟨p, us, n, vx, rfl, rfl, SqL.of h5, atI_nat x1, _, h1, _, a1, .inl ⟨p, us, m, vy, rfl, rfl, SqL.of h5, atI_nat y1, Nat.le_trans (show 2 ≤ 100 by decide) (by decide), fun t ht => ?_⟩⟩⟩
  have tp : p ≠ t := fun z => by rw [z, ht] at h5; cases h5
  refine ⟨t, [vx, vy], rfl, .inl (.inl upd_same), rfl, vx, [vy], rfl, ?_⟩
  refine ⟨_, h1, _, a1, p, us, m, m, rfl, rfl, by rw [upd_ne tp]; exact h5, (by rw [ixN_of (by omega) (by omega), Int.toNat_natCast]), ?_⟩
  refine ⟨vy, [], rfl, _, h1, _, c1, p, us.set m vx, n, n, rfl, rfl, upd_same, (by rw [ixN_of (by omega) (by rw [List.length_set]; omega), Int.toNat_natCast]), rfl, ?_⟩
  obtain ⟨w1, s1⟩ := w.newO (o := .tup [vx, vy]) ht
  have f1 := w1.turn (o := .lst (us.set m vx)) h3 h4
  have f2 := f1.turn (o := .lst ((us.set m vx).set n vy)) h3 h4
  have eO := e.step s1
  have t1 := eO.turn (es := ds.set m x) (vs := us.set m vx) hi h1 (h6.set x2 m) h3
  have hi2 : (E.set i (.o (ds.set m x)))[i]? = some (.o (ds.set m x)) := List.getElem?_set_self (List.getElem?_eq_some_iff.mp hi).1
  have t2 := t1.turn (es := (ds.set m x).set n y) (vs := (us.set m vx).set n vy) hi2 h1 ((h6.set x2 m).set y2 n) h3
  rw [List.set_set] at t2
  exact k.nx σ F _ _ (Ex.refl _) (((s.trans s1 w).turn h2).turn h2) f2 t2 q
end
end DL

namespace DL
open PySem PySem.Spec PyProof.Rows L2
/-! masks of seats -/
theorem add_or : ∀ (n a b : Nat), a < n → a &&& b = 0 → a + b = a ||| b
  | 0, a, b, h, _ => absurd h (Nat.not_lt_zero _)
  | n + 1, a, b, h, h0 => by
    by_cases ha : a = 0
    · subst ha; simp
    · have h1 : a / 2 &&& b / 2 = 0 := by rw [← Nat.and_div_two, h0]
      have ih := add_or n (a / 2) (b / 2) (by omega) h1
      have h2 : ¬ (a % 2 = 1 ∧ b % 2 = 1) := fun z => by
        have := Nat.and_mod_two_eq_one.mpr z
        rw [h0] at this; simp at this
      have e1 : (a + b) / 2 = (a ||| b) / 2 := by rw [Nat.or_div_two, ← ih]; omega
      have e2 : (a + b) % 2 = (a ||| b) % 2 := by
        have hor := @Nat.or_mod_two_eq_one a b
        rcases Nat.mod_two_eq_zero_or_one (a ||| b) with z | z
        · have : ¬ (a % 2 = 1 ∨ b % 2 = 1) := fun y => by have := hor.mpr y; omega
          omega
        · have := hor.mp z
          omega
      omega
theorem testBit_add {a b : Nat} (h : a &&& b = 0) (j : Nat) : (a + b).testBit j = (a.testBit j || b.testBit j) := by
  rw [add_or (a + 1) a b (Nat.lt_succ_self _) h, Nat.testBit_or]
theorem and_zero {a b : Nat} : a &&& b = 0 ↔ ∀ j, a.testBit j = true → b.testBit j = false := by
  constructor
  · intro h j ha
    have := congrArg (fun x => x.testBit j) h
    simp only [Nat.testBit_and, Nat.zero_testBit, ha, Bool.true_and] at this
    exact this
  · intro h
    refine Nat.eq_of_testBit_eq fun j => ?_
    rw [Nat.testBit_and, Nat.zero_testBit]
    cases ha : a.testBit j with
    | false => rfl
    | true => rw [h j ha]; rfl
/-- a part of a mask is taken away -/
theorem sub_part {u g : Nat} (h : u &&& g = u) : u ≤ g ∧ (g - u) &&& u = 0 ∧ ∀ j, (g - u).testBit j = (g.testBit j && !u.testBit j) := by
  have hb : ∀ j, u.testBit j = true → g.testBit j = true := fun j z => by
    have := congrArg (fun x => x.testBit j) h
    simp only [Nat.testBit_and, z, Bool.true_and] at this
    exact this
  have hx : (g ^^^ u) &&& u = 0 := and_zero.mpr fun j z => by
    rw [Nat.testBit_xor] at z
    cases hu : u.testBit j with
    | false => rfl
    | true => rw [hu, hb j hu] at z; simp at z
  have e : (g ^^^ u) + u = g := by
    refine Nat.eq_of_testBit_eq fun j => ?_
    rw [testBit_add hx, Nat.testBit_xor]
    cases hu : u.testBit j with
    | false => simp
    | true => rw [hb j hu]; simp
  have e2 : g - u = g ^^^ u := by omega
  refine ⟨by omega, by rw [e2]; exact hx, fun j => ?_⟩
  rw [e2, Nat.testBit_xor]
  cases hu : u.testBit j with
  | false => simp
  | true => rw [hb j hu]; simp
theorem part_of_add {h u : Nat} (z : h &&& u = 0) : u &&& (h + u) = u := by
  refine Nat.eq_of_testBit_eq fun j => ?_
  rw [Nat.testBit_and, testBit_add z]
  cases u.testBit j <;> simp
def maskP (p : Nat → Bool) : Nat → Nat
  | 0 => 0
  | n + 1 => maskP p n + if p n = true then 2 ^ n else 0
theorem maskP_spec (p : Nat → Bool) : ∀ n, maskP p n < 2 ^ n ∧ ∀ j, (maskP p n).testBit j = (decide (j < n) && p j)
  | 0 => ⟨by simp [maskP], fun j => by simp [maskP]⟩
  | n + 1 => by
    obtain ⟨h1, h2⟩ := maskP_spec p n
    have hp : (2 : Nat) ^ (n + 1) = 2 ^ n + 2 ^ n := by rw [Nat.pow_succ]; omega
    by_cases hn : p n = true
    · have e : maskP p (n + 1) = 2 ^ n + maskP p n := by
        show maskP p n + (if p n = true then 2 ^ n else 0) = _
        rw [if_pos hn]; omega
      refine ⟨by rw [e]; omega, fun j => ?_⟩
      rw [e]
      by_cases hj : j < n
      · rw [Nat.testBit_two_pow_add_gt hj, h2]
        simp [hj, Nat.lt_succ_of_lt hj]
      · by_cases hjn : j = n
        · subst hjn
          rw [Nat.testBit_two_pow_add_eq, h2]
          simp [hn]
        · have hlt : 2 ^ n + maskP p n < 2 ^ j := Nat.lt_of_lt_of_le (show _ < 2 ^ (n + 1) by omega) (Nat.pow_le_pow_right (by decide) (by omega))
          rw [Nat.testBit_lt_two_pow hlt]
          simp [show ¬ j < n + 1 by omega]
    · have e : maskP p (n + 1) = maskP p n := by
        show maskP p n + (if p n = true then 2 ^ n else 0) = _
        rw [if_neg hn]; rfl
      refine ⟨by rw [e]; omega, fun j => ?_⟩
      rw [e, h2]
      by_cases hjn : j = n
      · subst hjn; simp [Bool.eq_false_iff.mpr hn]
      · by_cases hj : j < n
        · simp [hj, Nat.lt_succ_of_lt hj]
        · simp [hj, show ¬ j < n + 1 by omega]
/-! weights of groups -/
def wsumN (ws : List Int) (n g : Nat) : Int := ((List.range n).map fun j => if g.testBit j = true then rget ws (j : Nat) else 0).sum
theorem wsumN_succ (ws : List Int) (n g : Nat) : wsumN ws (n + 1) g = wsumN ws n g + if g.testBit n = true then rget ws (n : Nat) else 0 := by
  unfold wsumN
  rw [List.range_succ, List.map_append, List.sum_append]
  simp
theorem wsumN_congr {ws : List Int} {n g h : Nat} (e : ∀ j, j < n → g.testBit j = h.testBit j) : wsumN ws n g = wsumN ws n h := by
  unfold wsumN
  congr 1
  exact List.map_congr_left fun j hj => by rw [e j (List.mem_range.mp hj)]
theorem wsumN_zero (ws : List Int) : ∀ n, wsumN ws n 0 = 0
  | 0 => rfl
  | n + 1 => by rw [wsumN_succ, wsumN_zero ws n]; simp
/-- the sums of all groups of the first n seats -/
def sumsOf (ws : List Int) (n : Nat) : List Int := (List.range (2 ^ n)).map (wsumN ws n)
theorem sumsOf_succ (ws : List Int) (n : Nat) : sumsOf ws (n + 1) = sumsOf ws n ++ (sumsOf ws n).map fun t => t + rget ws (n : Nat) := by
  unfold sumsOf
  rw [Nat.pow_succ, Nat.mul_two, List.range_add, List.map_append, List.map_map, List.map_map]
  congr 1
  · refine List.map_congr_left fun m hm => ?_
    rw [wsumN_succ, Nat.testBit_lt_two_pow (List.mem_range.mp hm)]
    simp
  · refine List.map_congr_left fun m hm => ?_
    have hm' := List.mem_range.mp hm
    show wsumN ws (n + 1) (2 ^ n + m) = wsumN ws n m + rget ws (n : Nat)
    rw [wsumN_succ, Nat.testBit_two_pow_add_eq, Nat.testBit_lt_two_pow hm']
    have e : wsumN ws n (2 ^ n + m) = wsumN ws n m := wsumN_congr fun j hj => Nat.testBit_two_pow_add_gt hj m
    rw [e]; simp
/-- the families of the groups apart from each group of the first n seats -/
def ApOk (n : Nat) (A : List Nat) : Prop := A.length = 2 ^ n ∧ ∀ (g a : Nat), A[g]? = some a → a < 2 ^ 2 ^ n ∧ ∀ h, a.testBit h = (decide (h < 2 ^ n) && decide (h &&& g = 0))
theorem ap_zero : ApOk 0 [1] := by
  refine ⟨rfl, fun g a e => ?_⟩
  have hg : g = 0 := by
    have := (List.getElem?_eq_some_iff.mp e).1
    simp at this; exact this
  subst hg
  simp at e
  subst e
  refine ⟨by decide, fun h => ?_⟩
  by_cases hh : h = 0
  · subst hh; simp
  · have : (1 : Nat).testBit h = false := Nat.testBit_lt_two_pow (Nat.lt_of_lt_of_le (by decide : 1 < 2 ^ 1) (Nat.pow_le_pow_right (by decide) (by omega)))
    rw [this]
    have : ¬ h < 2 ^ 0 := by simp; omega
    simp [this]
theorem and_high {n h g : Nat} (hg : g < 2 ^ n) (hh : h < 2 ^ n) : ((2 ^ n + h) &&& g = 0 ↔ h &&& g = 0) ∧ ((h &&& (2 ^ n + g) = 0) ↔ h &&& g = 0) ∧ ¬ ((2 ^ n + h) &&& (2 ^ n + g) = 0) := by
  have b : ∀ x, x < 2 ^ n → ∀ j, (2 ^ n + x).testBit j = (x.testBit j || decide (j = n)) := fun x hx j => by
    by_cases hj : j < n
    · rw [Nat.testBit_two_pow_add_gt hj]; simp [show ¬ j = n by omega]
    · by_cases hjn : j = n
      · subst hjn; rw [Nat.testBit_two_pow_add_eq, Nat.testBit_lt_two_pow hx]; simp
      · have h1 : 2 ^ n + x < 2 ^ j := Nat.lt_of_lt_of_le (show 2 ^ n + x < 2 ^ (n + 1) by rw [Nat.pow_succ]; omega) (Nat.pow_le_pow_right (by decide) (by omega))
        have h2 : x < 2 ^ j := Nat.lt_of_lt_of_le hx (Nat.pow_le_pow_right (by decide) (by omega))
        rw [Nat.testBit_lt_two_pow h1, Nat.testBit_lt_two_pow h2]; simp [hjn]
  have gn : g.testBit n = false := Nat.testBit_lt_two_pow hg
  have hn : h.testBit n = false := Nat.testBit_lt_two_pow hh
  refine ⟨?_, ?_, ?_⟩
  · rw [and_zero, and_zero]
    constructor
    · intro z j y
      exact z j (by rw [b h hh, y]; rfl)
    · intro z j y
      rw [b h hh, Bool.or_eq_true] at y
      rcases y with y | y
      · exact z j y
      · rw [of_decide_eq_true y]; exact gn
  · rw [and_zero, and_zero]
    constructor
    · intro z j y
      have := z j y
      rw [b g hg, Bool.or_eq_false_iff] at this
      exact this.1
    · intro z j y
      rw [b g hg, z j y]
      by_cases hjn : j = n
      · subst hjn; rw [hn] at y; cases y
      · simp [hjn]
  · rw [and_zero]
    intro z
    have := z n (by rw [b h hh]; simp)
    rw [b g hg] at this
    simp at this
theorem ap_succ {n : Nat} {A : List Nat} (h : ApOk n A) : ApOk (n + 1) (A.map (fun f => f ||| f * 2 ^ 2 ^ n) ++ A) := by
  obtain ⟨hl, ha⟩ := h
  have hp : (2 : Nat) ^ (n + 1) = 2 ^ n + 2 ^ n := by rw [Nat.pow_succ]; omega
  refine ⟨by rw [List.length_append, List.length_map]; omega, fun g a e => ?_⟩
  by_cases hg : g < 2 ^ n
  · rw [List.getElem?_append_left (by rw [List.length_map]; omega), List.getElem?_map] at e
    obtain ⟨f, hf, rfl⟩ := Option.map_eq_some_iff.mp e
    obtain ⟨f1, f2⟩ := ha g f hf
    have bit : ∀ x, (f ||| f * 2 ^ 2 ^ n).testBit x = (f.testBit x || (decide (x ≥ 2 ^ n) && f.testBit (x - 2 ^ n))) := fun x => by
      rw [Nat.testBit_or, ← Nat.shiftLeft_eq, Nat.testBit_shiftLeft]
    have key : ∀ x, (f ||| f * 2 ^ 2 ^ n).testBit x = (decide (x < 2 ^ (n + 1)) && decide (x &&& g = 0)) := fun x => by
      rw [bit, f2]
      by_cases hx : x < 2 ^ n
      · have h1 : ¬ x ≥ 2 ^ n := by omega
        have h2 : x < 2 ^ (n + 1) := by omega
        simp [hx, h1, h2]
      · rw [f2]
        by_cases hx2 : x < 2 ^ (n + 1)
        · have h3 : x - 2 ^ n < 2 ^ n := by omega
          have h4 : x ≥ 2 ^ n := by omega
          have e1 : x = 2 ^ n + (x - 2 ^ n) := by omega
          have hh := (and_high hg h3).1
          rw [← e1] at hh
          simp only [hx, h4, h3, hx2, decide_false, decide_true, Bool.false_and, Bool.true_and, Bool.false_or]
          by_cases hz : x &&& g = 0
          · rw [decide_eq_true hz, decide_eq_true (hh.mp hz)]
          · rw [decide_eq_false hz, decide_eq_false (fun y => hz (hh.mpr y))]
        · have h3 : ¬ x - 2 ^ n < 2 ^ n := by omega
          simp [hx, h3, hx2]
    refine ⟨Nat.lt_pow_two_of_testBit _ fun i hi => ?_, key⟩
    rw [key, decide_eq_false (by omega)]; rfl
  · rw [List.getElem?_append_right (by rw [List.length_map]; omega), List.length_map, hl] at e
    have hg2 : g - 2 ^ n < 2 ^ n := by
      have := (List.getElem?_eq_some_iff.mp e).1
      omega
    have e1 : g = 2 ^ n + (g - 2 ^ n) := by omega
    obtain ⟨f1, f2⟩ := ha _ a e
    have key : ∀ x, a.testBit x = (decide (x < 2 ^ (n + 1)) && decide (x &&& g = 0)) := fun x => by
      rw [f2]
      by_cases hx : x < 2 ^ n
      · have h2 : x < 2 ^ (n + 1) := by omega
        have hh := (and_high hg2 hx).2.1
        rw [← e1] at hh
        simp only [hx, h2, decide_true, Bool.true_and]
        by_cases hz : x &&& g = 0
        · rw [decide_eq_true hz, decide_eq_true (hh.mp hz)]
        · rw [decide_eq_false hz, decide_eq_false (fun y => hz (hh.mpr y))]
      · by_cases hx2 : x < 2 ^ (n + 1)
        · have h3 : x - 2 ^ n < 2 ^ n := by omega
          have hh := (and_high hg2 h3).2.2
          rw [← e1, show 2 ^ n + (x - 2 ^ n) = x by omega] at hh
          simp [hx, hh]
        · simp [hx, hx2]
    exact ⟨Nat.lt_of_lt_of_le f1 (Nat.pow_le_pow_right (by decide) (Nat.pow_le_pow_right (by decide) (by omega))), key⟩
end DL

namespace GL
open PySem PySem.Spec PyProof.Rows L2
section
variable {X : Cx}
/-! bits of numbers that are not negative -/
theorem bitAnd_nat (n m : Nat) : Builtin.bitAnd (n : Int) (m : Int) = ((n &&& m : Nat) : Int) := by
  unfold Builtin.bitAnd
  rw [decide_eq_true (Int.natCast_nonneg n), decide_eq_true (Int.natCast_nonneg m)]
  simp
theorem bitOr_nat (n m : Nat) : Builtin.bitOr (n : Int) (m : Int) = ((n ||| m : Nat) : Int) := by
  rw [bitOr_nn (Int.natCast_nonneg n) (Int.natCast_nonneg m)]; simp
def rAndN : R2 := fun x y H Q => ∃ n m : Nat, x = .int (n : Int) ∧ y = .int (m : Int) ∧ Q (.int ((n &&& m : Nat) : Int)) H
theorem op_andNR : OpR X (binaryOp .BitAnd) rAndN := by
  intro pins s σ H x y v u Q I rx ry h
  obtain ⟨n, m, rfl, rfl, q⟩ := h
  rw [← bitAnd_nat] at q
  exact op_and pins s σ H _ _ v u Q I rx ry ⟨_, _, rfl, rfl, q⟩
def rOrN : R2 := fun x y H Q => ∃ n m : Nat, x = .int (n : Int) ∧ y = .int (m : Int) ∧ Q (.int ((n ||| m : Nat) : Int)) H
theorem op_orNR : OpR X (binaryOp .BitOr) rOrN := by
  intro pins s σ H x y v u Q I rx ry h
  obtain ⟨n, m, rfl, rfl, q⟩ := h
  rw [← bitOr_nat] at q
  exact op_or pins s σ H _ _ v u Q I rx ry ⟨_, _, rfl, rfl, q⟩
def rShlN : R2 := fun x y H Q => ∃ n k : Nat, x = .int (n : Int) ∧ y = .int (k : Int) ∧ (n < 2 ^ 1000 ∧ k ≤ 1000000) ∧ Q (.int ((n * 2 ^ k : Nat) : Int)) H
theorem op_shlNR : OpR X (binaryOp .LShift) rShlN := by
  intro pins s σ H x y v u Q I rx ry h
  obtain ⟨n, k, rfl, rfl, ⟨h1, h2⟩, q⟩ := h
  refine op_shlN pins s σ H _ _ v u Q I rx ry ⟨_, k, rfl, rfl, shl_ok (n := 1000) (by rw [Int.natAbs_natCast]; exact h1) (by omega), ?_⟩
  have e : (n : Int) * 2 ^ k = ((n * 2 ^ k : Nat) : Int) := by push_cast; rfl
  rw [e]; exact q
theorem ip_orN : PIp X .BitOr (ipI fun i j => Builtin.bitOr i j) := by
  intro pins s σ H x y v u Q I r1 r2 h
  obtain ⟨i, j, e1, e2, q⟩ := h
  exact iop_or pins s σ H x y v u Q I r1 r2 ⟨i, j, e1, e2, q⟩
end
end GL
namespace DL
open PySem PySem.Spec PyProof.Rows L2
section
variable {K : PySem.W.Frag} {b : Bg} {E : Env'} {ta tb te : TE} {t u : TS} {P : Po} {Φ : D → Prop} {C : Addr}
theorem rd_andN {n m : Nat} (q : Φ (.int ((n &&& m : Nat) : Int))) : rd2 K b GL.rAndN (.int (n : Int)) (.int (m : Int)) Φ := fun F H v u w d1 d2 Q k => by
  cases d1; cases d2
  exact ⟨n, m, rfl, rfl, k _ F H _ .refl w (.int _) q⟩
theorem rd_orN {n m : Nat} (q : Φ (.int ((n ||| m : Nat) : Int))) : rd2 K b GL.rOrN (.int (n : Int)) (.int (m : Int)) Φ := fun F H v u w d1 d2 Q k => by
  cases d1; cases d2
  exact ⟨n, m, rfl, rfl, k _ F H _ .refl w (.int _) q⟩
theorem rd_shlN {n m : Nat} (h1 : n < 2 ^ 1000) (h2 : m ≤ 1000000) (q : Φ (.int ((n * 2 ^ m : Nat) : Int))) : rd2 K b GL.rShlN (.int (n : Int)) (.int (m : Int)) Φ := fun F H v u w d1 d2 Q k => by
  cases d1; cases d2
  exact ⟨n, m, rfl, rfl, ⟨h1, h2⟩, k _ F H _ .refl w (.int _) q⟩
theorem rd_shrM {n k : Nat} (q : Φ (.int ((n / 2 ^ k : Nat) : Int))) : rd2 K b GL.rShrN (.int (n : Int)) (.int (k : Int)) Φ := rd_shrN (by
  have e : (n : Int) / 2 ^ k = ((n / 2 ^ k : Nat) : Int) := by push_cast; rfl
  rw [e]; exact q)
theorem rd_oneShlM {k : Nat} (hk : k ≤ 134217727) (q : Φ (.int ((2 ^ k : Nat) : Int))) : rd2 K b GL.rOneShl (.int 1) (.int (k : Int)) Φ := rd_oneShl hk (by
  have e : (2 : Int) ^ k = ((2 ^ k : Nat) : Int) := by push_cast; rfl
  rw [e]; exact q)
theorem odd_bit (n k : Nat) : ((((n / 2 ^ k % 2 : Nat) : Int)) != 0) = n.testBit k := by
  rw [Nat.testBit_eq_decide_div_mod_eq]
  rcases Nat.mod_two_eq_zero_or_one (n / 2 ^ k) with z | z <;> rw [z] <;> rfl
/-- g >> k & 1 as a test -/
theorem wpt_bit {Ψ : Bool → Prop} (h : wpe K b ta E fun x => ∃ n : Nat, x = .int (n : Int) ∧ wpe K b tb E fun y => ∃ k : Nat, y = .int (k : Int) ∧ Ψ (n.testBit k)) : wpt K b (tTruI K (tOp GL.rOdd (tOp GL.rShrN ta tb) (tC (.int 1)))) E Ψ := by
  refine wpt_truI (wpe_op (wpe_op (h.mono fun x hx => ?_)))
  obtain ⟨n, rfl, hx⟩ := hx
  refine hx.mono fun y hy => ?_
  obtain ⟨k, rfl, q⟩ := hy
  refine rd_shrM (wpe_int (rd_odd ⟨_, rfl, ?_⟩))
  rw [odd_bit]; exact q
theorem wpi_revR {Φ : List D → Prop} (h : wpe K b te E fun x => ∃ n : Nat, x = .int (n : Int) ∧ n ≤ 100000 ∧ Φ ((List.range n).map fun j => .int ((n - 1 - j : Nat) : Int))) : wpi K b (iRevR (tRg1 te)) E Φ := fun H0 F H σ w e R k =>
  h H0 F H σ w e _ fun v F' H' x s' w' d q => by
    obtain ⟨n, rfl, h1, q⟩ := q
    cases d
    refine ⟨n, rfl, by decide, by decide, by omega, by omega, k _ F' H' _ s' w' ?_ q⟩
    have en : ((n : Int) - 0).toNat = n := by omega
    rw [en]
    refine ⟨fun i F' H' x w hi => ?_, fun i F' H' x w hi => ?_, fun i F' H' v H2 x w hi y => ?_⟩
    · rw [List.length_map, List.length_range] at hi; exact hi
    · rw [List.length_map, List.length_range] at hi; exact hi
    · obtain ⟨rfl, rfl⟩ := y
      rw [List.length_map, List.length_range] at hi
      have e : (0 : Int) + (n : Int) - 1 + (i : Nat) * (-1) = ((n - 1 - i : Nat) : Int) := by omega
      rw [e]
      exact ⟨F', _, .refl, w, by rw [List.getElem?_map, List.getElem?_range hi]; rfl, .int _⟩
end
/-! which groups can be put under the first allowances -/
def FamP (ws as : List Int) (n : Nat) : Nat → Nat → Prop
  | 0, g => g = 0
  | i + 1, g => ∃ u h, u < 2 ^ n ∧ wsumN ws n u ≤ rget as (i : Nat) ∧ FamP ws as n i h ∧ h < 2 ^ n ∧ h &&& u = 0 ∧ g = h + u
theorem add_lt {n h u : Nat} (h1 : h < 2 ^ n) (h2 : u < 2 ^ n) (z : h &&& u = 0) : h + u < 2 ^ n := by
  rw [add_or (h + 1) h u (Nat.lt_succ_self _) z]
  exact Nat.or_lt_two_pow h1 h2
theorem fam_lt {ws as : List Int} {n : Nat} : ∀ {i g : Nat}, FamP ws as n i g → g < 2 ^ n
  | 0, g, h => by have : g = 0 := h; subst this; exact Nat.two_pow_pos n
  | i + 1, g, h => by
    obtain ⟨u, h, h1, _, _, h2, h3, rfl⟩ := h
    exact add_lt h2 h1 h3
/-- a mask of the groups that can be put under the first i allowances -/
def FamOk (ws as : List Int) (n i f : Nat) : Prop := f < 2 ^ 2 ^ n ∧ ∀ g, f.testBit g = true ↔ FamP ws as n i g
theorem fam_zero (ws as : List Int) (n : Nat) : FamOk ws as n 0 1 := by
  refine ⟨?_, fun g => ?_⟩
  · have := Nat.two_pow_pos n
    exact Nat.lt_of_lt_of_le (by decide : 1 < 2 ^ 1) (Nat.pow_le_pow_right (by decide) this)
  · show (1 : Nat).testBit g = true ↔ g = 0
    cases g with
    | zero => simp
    | succ g => 
      have : (1 : Nat).testBit (g + 1) = false := Nat.testBit_lt_two_pow (Nat.lt_of_lt_of_le (by decide : 1 < 2 ^ 1) (Nat.pow_le_pow_right (by decide) (by omega)))
      rw [this]; simp
/-- the groups that fit under an allowance -/
def fitG (ws : List Int) (n : Nat) (a : Int) : List Nat := (List.range (2 ^ n)).filter fun g => decide (wsumN ws n g ≤ a)
theorem fitG_mem {ws : List Int} {n : Nat} {a : Int} {g : Nat} : g ∈ fitG ws n a ↔ g < 2 ^ n ∧ wsumN ws n g ≤ a := by
  unfold fitG
  rw [List.mem_filter, List.mem_range, decide_eq_true_iff]
/-- what comes of a family with one allowance more -/
def grownN (f : Nat) (A : List Nat) (gs : List Nat) : Nat := gs.foldl (fun r g => r ||| (f &&& A.getD g 0) * 2 ^ g) 0
theorem grown_bit (f : Nat) (A : List Nat) (x : Nat) : ∀ (gs : List Nat) (r : Nat), (gs.foldl (fun r g => r ||| (f &&& A.getD g 0) * 2 ^ g) r).testBit x = true ↔ r.testBit x = true ∨ ∃ g ∈ gs, g ≤ x ∧ (f &&& A.getD g 0).testBit (x - g) = true
  | [], r => by simp
  | g :: gs, r => by
    rw [List.foldl_cons, grown_bit f A x gs, Nat.testBit_or, ← Nat.shiftLeft_eq, Nat.testBit_shiftLeft, Bool.or_eq_true, Bool.and_eq_true, decide_eq_true_iff]
    constructor
    · rintro ((z | ⟨z1, z2⟩) | ⟨h, h1, h2⟩)
      · exact .inl z
      · exact .inr ⟨g, List.mem_cons_self .., z1, z2⟩
      · exact .inr ⟨h, List.mem_cons_of_mem _ h1, h2⟩
    · rintro (z | ⟨h, h1, h2⟩)
      · exact .inl (.inl z)
      · rcases List.mem_cons.mp h1 with rfl | h1
        · exact .inl (.inr h2)
        · exact .inr ⟨h, h1, h2⟩
theorem fam_succ {ws as : List Int} {n i f : Nat} {A : List Nat} (hA : ApOk n A) (h : FamOk ws as n i f) : FamOk ws as n (i + 1) (grownN f A (fitG ws n (rget as (i : Nat)))) := by
  have key : ∀ x, (grownN f A (fitG ws n (rget as (i : Nat)))).testBit x = true ↔ FamP ws as n (i + 1) x := fun x => by
    unfold grownN
    rw [grown_bit]
    constructor
    · rintro (z | ⟨g, h1, h2, h3⟩)
      · simp at z
      · obtain ⟨g1, g2⟩ := fitG_mem.mp h1
        have hg : g < A.length := by rw [hA.1]; exact g1
        have ea : A[g]? = some (A.getD g 0) := by rw [List.getD, List.getElem?_eq_getElem hg]; rfl
        obtain ⟨_, a2⟩ := hA.2 g _ ea
        rw [Nat.testBit_and, Bool.and_eq_true, a2, Bool.and_eq_true, decide_eq_true_iff, decide_eq_true_iff] at h3
        exact ⟨g, x - g, g1, g2, (h.2 _).mp h3.1, h3.2.1, h3.2.2, by omega⟩
    · rintro ⟨g, y, g1, g2, g3, g4, g5, rfl⟩
      refine .inr ⟨g, fitG_mem.mpr ⟨g1, g2⟩, by omega, ?_⟩
      have hg : g < A.length := by rw [hA.1]; exact g1
      have ea : A[g]? = some (A.getD g 0) := by rw [List.getD, List.getElem?_eq_getElem hg]; rfl
      obtain ⟨_, a2⟩ := hA.2 g _ ea
      rw [Nat.testBit_and, Bool.and_eq_true, a2, Bool.and_eq_true, decide_eq_true_iff, decide_eq_true_iff, show y + g - g = y by omega]
      exact ⟨(h.2 _).mpr g3, g4, g5⟩
  refine ⟨Nat.lt_pow_two_of_testBit _ fun x hx => ?_, key⟩
  cases hb : (grownN f A (fitG ws n (rget as (i : Nat)))).testBit x with
  | false => rfl
  | true => 
    have := fam_lt ((key x).mp hb)
    omega
/-! packings -/
def isPk (ws as idx : List Int) : Prop := idx.length = ws.length ∧ (∀ k ∈ idx, 0 ≤ k ∧ k < as.length) ∧ ∀ k, k < as.length → wsumN ws ws.length (maskP (fun j => decide (rget idx (j : Nat) = (k : Nat))) ws.length) ≤ rget as (k : Nat)
theorem maskP_lt (p : Nat → Bool) (n : Nat) : maskP p n < 2 ^ n := (maskP_spec p n).1
theorem maskP_bit {p : Nat → Bool} {n j : Nat} (h : j < n) : (maskP p n).testBit j = p j := by rw [(maskP_spec p n).2, decide_eq_true h]; rfl
theorem maskP_bit' {p : Nat → Bool} {n j : Nat} : (maskP p n).testBit j = (decide (j < n) && p j) := (maskP_spec p n).2 j
/-- a packing shows that all seats can be put -/
theorem fam_of_pk {ws as idx : List Int} (h : isPk ws as idx) : ∀ {i : Nat}, i ≤ as.length → FamP ws as ws.length i (maskP (fun j => decide (rget idx (j : Nat) < (i : Nat))) ws.length)
  | 0, _ => by
    show maskP _ _ = 0
    refine Nat.eq_of_testBit_eq fun j => ?_
    rw [maskP_bit', Nat.zero_testBit]
    by_cases hj : j < ws.length
    · have hj' : j < idx.length := by rw [h.1]; exact hj
      have := (h.2.1 (rget idx (j : Nat)) (by unfold rget; rw [Int.toNat_natCast, List.getD, List.getElem?_eq_getElem hj']; exact List.getElem_mem hj')).1
      rw [decide_eq_false (show ¬ rget idx (j : Nat) < ((0 : Nat) : Int) by omega), Bool.and_false]
    · rw [decide_eq_false hj]; rfl
  | i + 1, hi => by
    have ih := fam_of_pk h (i := i) (by omega)
    have hz : maskP (fun j => decide (rget idx (j : Nat) < (i : Nat))) ws.length &&& maskP (fun j => decide (rget idx (j : Nat) = (i : Nat))) ws.length = 0 := and_zero.mpr fun j hj => by
      rw [maskP_bit', Bool.and_eq_true] at hj
      have := of_decide_eq_true hj.2
      rw [maskP_bit', decide_eq_false (show ¬ rget idx (j : Nat) = (i : Nat) by omega), Bool.and_false]
    refine ⟨_, _, maskP_lt (fun j => decide (rget idx (j : Nat) = (i : Nat))) _, h.2.2 i (by omega), ih, maskP_lt _ _, hz, ?_⟩
    refine Nat.eq_of_testBit_eq fun j => ?_
    rw [testBit_add hz, maskP_bit', maskP_bit', maskP_bit', ← Bool.and_or_distrib_left]
    congr 1
    by_cases h1 : rget idx (j : Nat) < (i : Nat)
    · rw [decide_eq_true h1, decide_eq_true (by omega)]; rfl
    · by_cases h2 : rget idx (j : Nat) = (i : Nat)
      · rw [decide_eq_true h2, decide_eq_true (by omega), Bool.or_true]
      · rw [decide_eq_false h1, decide_eq_false h2, decide_eq_false (by omega)]; rfl
theorem all_bit {n j : Nat} : (2 ^ n - 1).testBit j = decide (j < n) := Nat.testBit_two_pow_sub_one n j
theorem fam_all {ws as idx : List Int} (h : isPk ws as idx) : FamP ws as ws.length as.length (2 ^ ws.length - 1) := by
  have := fam_of_pk h (Nat.le_refl _)
  have e : maskP (fun j => decide (rget idx (j : Nat) < (as.length : Nat))) ws.length = 2 ^ ws.length - 1 := by
    refine Nat.eq_of_testBit_eq fun j => ?_
    rw [maskP_bit', all_bit]
    by_cases hj : j < ws.length
    · have hj' : j < idx.length := by rw [h.1]; exact hj
      have := (h.2.1 (rget idx (j : Nat)) (by unfold rget; rw [Int.toNat_natCast, List.getD, List.getElem?_eq_getElem hj']; exact List.getElem_mem hj')).2
      rw [decide_eq_true hj, decide_eq_true (show rget idx (j : Nat) < (as.length : Nat) by omega)]; rfl
    · rw [decide_eq_false hj]; rfl
  rw [e] at this; exact this
/-- seats that are put under the allowances from i on -/
def PutOk (ws as idx : List Int) (i left : Nat) : Prop := idx.length = ws.length ∧ left < 2 ^ ws.length ∧ FamP ws as ws.length i left ∧ (∀ k ∈ idx, 0 ≤ k ∧ k ≤ as.length) ∧
  (∀ j, j < ws.length → left.testBit j = false → (i : Int) ≤ rget idx (j : Nat) ∧ rget idx (j : Nat) < as.length) ∧
  ∀ k, i ≤ k → k < as.length → wsumN ws ws.length (maskP (fun j => !left.testBit j && decide (rget idx (j : Nat) = (k : Nat))) ws.length) ≤ rget as (k : Nat)
theorem put_first {ws as : List Int} (h : FamP ws as ws.length as.length (2 ^ ws.length - 1)) : PutOk ws as (List.replicate ws.length 0) as.length (2 ^ ws.length - 1) := by
  refine ⟨List.length_replicate, by have := Nat.two_pow_pos ws.length; omega, h, fun k hk => ?_, fun j hj hb => ?_, fun k h1 h2 => by omega⟩
  · rw [(List.mem_replicate.mp hk).2]; omega
  · rw [all_bit, decide_eq_true hj] at hb; cases hb
def putIn (u : Nat) (i : Int) (idx : List Int) : List Int := idx.zipIdx.map fun p => if u.testBit p.2 = true then i else p.1
theorem putIn_len (u : Nat) (i : Int) (idx : List Int) : (putIn u i idx).length = idx.length := by unfold putIn; rw [List.length_map, List.length_zipIdx]
theorem putIn_get {u : Nat} {i : Int} {idx : List Int} {j : Nat} (h : j < idx.length) : rget (putIn u i idx) (j : Nat) = if u.testBit j = true then i else rget idx (j : Nat) := by
  unfold rget putIn
  rw [Int.toNat_natCast, List.getD, List.getElem?_map, List.getElem?_zipIdx, List.getElem?_eq_getElem h, List.getD, List.getElem?_eq_getElem h]
  simp
theorem put_succ {ws as idx : List Int} {i left u : Nat} (hi : i < as.length) (h : PutOk ws as idx (i + 1) left) (h1 : u < 2 ^ ws.length) (h2 : wsumN ws ws.length u ≤ rget as (i : Nat)) (h3 : u &&& left = u) (h4 : FamP ws as ws.length i (left - u)) :
    PutOk ws as (putIn u i idx) i (left - u) := by
  obtain ⟨a1, a2, a3, a4, a5, a6⟩ := h
  obtain ⟨b1, b2, b3⟩ := sub_part h3
  have sub : ∀ j, u.testBit j = true → left.testBit j = true := fun j z => by
    have := congrArg (fun x => x.testBit j) h3
    simp only [Nat.testBit_and, z, Bool.true_and] at this
    exact this
  refine ⟨by rw [putIn_len, a1], by omega, h4, fun k hk => ?_, fun j hj hb => ?_, fun k k1 k2 => ?_⟩
  · obtain ⟨j, hj, rfl⟩ := List.mem_iff_getElem.mp hk
    have hj' : j < idx.length := by rw [putIn_len] at hj; exact hj
    have e := putIn_get (u := u) (i := i) hj'
    have e1 : rget (putIn u i idx) (j : Nat) = (putIn u i idx)[j] := by unfold rget; rw [Int.toNat_natCast, List.getD, List.getElem?_eq_getElem hj]; rfl
    rw [← e1, e]
    split
    · omega
    · exact a4 _ (by unfold rget; rw [Int.toNat_natCast, List.getD, List.getElem?_eq_getElem hj']; exact List.getElem_mem hj')
  · rw [putIn_get (by omega)]
    rw [b3] at hb
    by_cases hu : u.testBit j = true
    · rw [if_pos hu]; omega
    · rw [if_neg hu]
      have hl : left.testBit j = false := by
        rw [Bool.eq_false_iff.mpr hu] at hb; simpa using hb
      have := a5 j hj hl
      omega
  · by_cases hk : k = i
    · subst hk
      have e : wsumN ws ws.length (maskP (fun j => !(left - u).testBit j && decide (rget (putIn u (k : Nat) idx) (j : Nat) = (k : Nat))) ws.length) = wsumN ws ws.length u := wsumN_congr fun j hj => by
        rw [maskP_bit hj, putIn_get (by omega), b3]
        cases hu : u.testBit j with
        | true => simp
        | false =>
          cases hl : left.testBit j with
          | true => simp
          | false =>
            have := (a5 j hj hl).1
            simp; omega
      rw [e]; exact h2
    · have e : wsumN ws ws.length (maskP (fun j => !(left - u).testBit j && decide (rget (putIn u (i : Nat) idx) (j : Nat) = (k : Nat))) ws.length) = wsumN ws ws.length (maskP (fun j => !left.testBit j && decide (rget idx (j : Nat) = (k : Nat))) ws.length) := wsumN_congr fun j hj => by
        rw [maskP_bit hj, maskP_bit hj, putIn_get (by omega), b3]
        cases hu : u.testBit j with
        | true => rw [sub j hu]; simp; omega
        | false => simp
      rw [e]; exact a6 k (by omega) k2
theorem put_end {ws as idx : List Int} {left : Nat} (h : PutOk ws as idx 0 left) : isPk ws as idx := by
  obtain ⟨a1, a2, a3, a4, a5, a6⟩ := h
  have : left = 0 := a3
  subst this
  refine ⟨a1, fun k hk => ?_, fun k hk => ?_⟩
  · obtain ⟨j, hj, rfl⟩ := List.mem_iff_getElem.mp hk
    have e1 : rget idx (j : Nat) = idx[j] := by unfold rget; rw [Int.toNat_natCast, List.getD, List.getElem?_eq_getElem hj]; rfl
    rw [← e1]
    have := a5 j (by omega) (Nat.zero_testBit _)
    omega
  · have := a6 k (by omega) hk
    have e : wsumN ws ws.length (maskP (fun j => !(0 : Nat).testBit j && decide (rget idx (j : Nat) = (k : Nat))) ws.length) = wsumN ws ws.length (maskP (fun j => decide (rget idx (j : Nat) = (k : Nat))) ws.length) := wsumN_congr fun j hj => by
      rw [maskP_bit hj, maskP_bit hj]; simp
    rw [e] at this; exact this
end DL

namespace DL
open PySem PySem.Spec PyProof.Rows L2
/-! None, or a new list of one's own -/
def vD : Option (List D) → D
  | none => .non
  | some ds => .lst ds
def NvOk (K : PySem.W.Frag) (b : Bg) (F' H' H : Hp) (v : V) : Option (List D) → Prop
  | none => v = .non
  | some ds => ∃ p vs, v = .ref p ∧ H p = none ∧ F' p = none ∧ H' p = some (.lst vs) ∧ DvA K b F' vs ds
section
variable {K : PySem.W.Frag} {b : Bg} {E : Env'} {ta tb te : TE} {t u : TS} {P : Po} {F H F' H' : Hp}
theorem NvOk.old {G G' : Hp} {v : V} (h : ∀ a, G a = none → G' a = none) : ∀ {o : Option (List D)}, NvOk K b F H G v o → NvOk K b F H G' v o
  | none, z => z
  | some _, ⟨p, vs, e, a1, a2⟩ => ⟨p, vs, e, h p a1, a2⟩
def wpv (K : PySem.W.Frag) (b : Bg) (t : TE) (E : Env') (Φ : Option (List D) → Prop) : Prop := ∀ H0 F H σ, Wd K b F H → EnvD K b H0 F H σ E →
  ∀ Q : VK, (∀ v F' H' o, Step b F H F' H' → Wd K b F' H' → NvOk K b F' H' H v o → Φ o → Q v H') → t σ H Q
def Sv {α : Type} (K : PySem.W.Frag) (args : α → List D) (pre : Bg → α → Prop) (post : α → Option (List D) → Prop) : Sp := fun vs H Q _ => ∃ b F a, Wd K b F H ∧ DvA K b F vs (args a) ∧ pre b a ∧
  ∀ v F' H' o, Step b F H F' H' → Wd K b F' H' → NvOk K b F' H' H v o → post a o → Q v H'
theorem wpv_call {α : Type} {args : α → List D} {pre : Bg → α → Prop} {post : α → Option (List D) → Prop} {EE : XK} {tr : TA} {Φ : Option (List D) → Prop} (h : wpa K b tr E fun xs => ∃ a, xs = args a ∧ pre b a ∧ ∀ x, post a x → Φ x) : wpv K b (tCall (Sv K args pre post) [] EE tr) E Φ := fun H0 F H σ w e Q k =>
  h H0 F H σ w e _ fun vs F1 H1 xs s1 w1 d1 p1 => by
    obtain ⟨a, rfl, h1, h2⟩ := p1
    rw [List.append_nil]
    exact ⟨b, F1, a, w1, d1, h1, fun v F' H' o s w' N q => k v F' H' o (s1.trans s w1) w' (N.old fun a z => s1.fresh w1 z) (h2 o q)⟩
theorem ln_v {α : Type} {args : α → List D} {pre : Bg → α → Prop} {post : α → Option (List D) → Prop} {n : Nat} {vs : List V} {H : Hp} {Q : VK} {EE : XK} (h : Sv K args pre post vs H Q EE) (hn : ∀ a, (args a).length = n) : vs.length = n := by
  obtain ⟨_, _, a, _, h, _⟩ := h
  exact h.len.trans (hn a)
/-- .. becomes data -/
theorem wpe_v {Φ : D → Prop} (h : wpv K b te E fun o => Φ (vD o)) : wpe K b te E Φ := fun H0 F H σ w e Q k =>
  h H0 F H σ w e _ fun v F1 H1 o s1 w1 N q => by
    match o, N, q with
    | none, N, q =>
      cases (show v = .non from N)
      exact k .non F1 H1 .non s1 w1 .non q
    | some ds, N, q =>
      obtain ⟨p, vs, rfl, n1, f1, h1, d1⟩ := N
      have st : Step b F H (upd F1 p (.lst vs)) H1 := ⟨s1.ex.trans (Ex.new f1), s1.keep, fun a e1 e2 => by
        rw [upd_ne (show a ≠ p from fun z => e2 (by rw [z]; exact n1))]; exact s1.out a e1 e2⟩
      exact k _ _ H1 _ st (w1.frz f1 h1 (w.nb n1)) (.lst upd_same (d1.up (Ex.new f1))) q
theorem wpe_callv {α : Type} {args : α → List D} {pre : Bg → α → Prop} {post : α → Option (List D) → Prop} {EE : XK} {tr : TA} {Φ : D → Prop} (h : wpa K b tr E fun xs => ∃ a, xs = args a ∧ pre b a ∧ ∀ x, (∃ o, x = vD o ∧ post a o) → Φ x) : wpe K b (tCall (Sv K args pre post) [] EE tr) E Φ :=
  wpe_v (wpv_call fun H0 F H σ w e Q k => h H0 F H σ w e Q fun vs F' H' ds s w' d q => k vs F' H' ds s w' d (let ⟨a, e1, e2, e3⟩ := q; ⟨a, e1, e2, fun o ho => e3 _ ⟨o, rfl, ho⟩⟩))
/-- .. is kept as one's own -/
theorem wps_asgv {i : Nat} (h : wpv K b te E fun o => match o with | none => P.nx (E.set i (.d .non)) | some ds => P.nx (E.set i (.o ds))) : wps K b (tAsg te (gName i)) E P := fun F0 H0 F H σ s w e Dn k =>
  h H0 F H σ w e _ fun v F' H' o s' w' N q => by
    match o, N, q with
    | none, N, q =>
      cases (show v = .non from N)
      exact k.nx _ F' H' _ s'.ex (s.trans s' w) w' ((e.step s').setD .non) q
    | some ds, N, q =>
      obtain ⟨p, vs, rfl, n1, n2, n3, d⟩ := N
      exact k.nx _ F' H' _ s'.ex (s.trans s' w) w' ((e.step s').setO (s.fresh w n1) n2 (w.nb n1) n3 d fun j es _ hj z => by
        obtain ⟨p', us, h1, _, _, _, h5, _⟩ := e.own j es hj
        rw [h1] at z
        cases z
        rw [n1] at h5; cases h5) q
theorem wps_retv (h : wpv K b te E fun o => match o with | none => P.rt .non | some ds => P.rl ds) : wps K b (tRet te) E P := fun F0 H0 F H σ s w e Dn k =>
  h H0 F H σ w e Dn.rt fun v F' H' o s' w' N q => by
    match o, N, q with
    | none, N, q =>
      cases (show v = .non from N)
      exact k.rt _ F' H' _ (s.trans s' w) w' .non q
    | some ds, N, q =>
      obtain ⟨p, vs, rfl, n1, n2, n3, d⟩ := N
      exact k.rl p vs F' H' ds (s.trans s' w) w' (s.fresh w n1) n2 (w.nb n1) n3 d q
theorem r_v2 {α : Type} {args : α → List D} {pre : Bg → α → Prop} {post : α → Option (List D) → Prop} {N : List Str} {t : TS} {vs : List V} {H : Hp} {Q : VK} {EE : XK} (h : Sv K args pre post vs H Q EE)
    (w : ∀ b a, pre b a → wps K b t (startE N.length (args a)) { nx := fun _ => False, rt := fun x => x = .non ∧ post a none, rl := fun ds => post a (some ds) }) : t { nx := fun _ H' => Q .non H', rt := Q } (L2.start N vs) H := by
  obtain ⟨b, F, a, hw, hd, hp, q⟩ := h
  refine w b a hp F H F H (L2.start N vs) .refl hw (envD_start hd) _ ⟨fun _ _ _ _ _ _ _ _ z => z.elim, fun v F' H' x s w' dv z => ?_, fun p us F' H' es s w' n0 n1 nb n2 dv z => q _ F' H' (some es) s w' ⟨p, us, rfl, n0, n1, n2, dv⟩ z, fun _ _ _ _ _ _ _ _ z => z.elim, fun _ _ _ _ _ _ _ _ z => z.elim⟩
  obtain ⟨rfl, z⟩ := z
  cases dv
  exact q _ F' H' none s w' rfl z
end
/-! which packing -/
/-- the group taken: the first one that fits -/
def headN (f : Nat) (gs : List Nat) (left : Nat) : Nat := (gs.filter fun u => decide (u &&& left = u) && f.testBit (left - u)).headD 0
theorem headN_spec {f left : Nat} {gs : List Nat} (h : ∃ u ∈ gs, u &&& left = u ∧ f.testBit (left - u) = true) : headN f gs left ∈ gs ∧ headN f gs left &&& left = headN f gs left ∧ f.testBit (left - headN f gs left) = true := by
  obtain ⟨u, hu, h1, h2⟩ := h
  have hm : u ∈ gs.filter fun u => decide (u &&& left = u) && f.testBit (left - u) := List.mem_filter.mpr ⟨hu, by rw [decide_eq_true h1, h2]; rfl⟩
  unfold headN
  cases hf : gs.filter fun u => decide (u &&& left = u) && f.testBit (left - u) with
  | nil => rw [hf] at hm; cases hm
  | cons x xs =>
    have hx : x ∈ gs.filter fun u => decide (u &&& left = u) && f.testBit (left - u) := by rw [hf]; exact List.mem_cons_self
    obtain ⟨x1, x2⟩ := List.mem_filter.mp hx
    rw [Bool.and_eq_true, decide_eq_true_iff] at x2
    exact ⟨x1, x2⟩
open Classical in
noncomputable def famC (ws as : List Int) (i : Nat) : Nat := if h : ∃ f, FamOk ws as ws.length i f then h.choose else 0
theorem famC_eq {ws as : List Int} {i f : Nat} (h : FamOk ws as ws.length i f) : f = famC ws as i := by
  have hx : ∃ f, FamOk ws as ws.length i f := ⟨f, h⟩
  unfold famC
  rw [dif_pos hx]
  refine Nat.eq_of_testBit_eq fun g => ?_
  have h1 := h.2 g
  have h2 := hx.choose_spec.2 g
  rw [Bool.eq_iff_iff, h1, h2]
noncomputable def pkRun (ws as : List Int) : Nat → List Int × Nat
  | 0 => (List.replicate ws.length 0, 2 ^ ws.length - 1)
  | j + 1 => 
    let u := headN (famC ws as (as.length - 1 - j)) (fitG ws ws.length (rget as ((as.length - 1 - j : Nat) : Int))) (pkRun ws as j).2
    (putIn u ((as.length - 1 - j : Nat) : Int) (pkRun ws as j).1, (pkRun ws as j).2 - u)
noncomputable def pkF (ws as : List Int) : List Int := (pkRun ws as as.length).1
def pkV (ws as : List Int) : Option (List D) → Prop
  | none => ∀ idx, ¬ isPk ws as idx
  | some ds => ds = (pkF ws as).map D.int ∧ isPk ws as (pkF ws as)
end DL

namespace DL
open PySem PySem.Spec PyProof.Rows L2
/-! packings: what each def promises -/
abbrev Sd2 := Int × Bool
def encS (s : Sd2) : D := .tup [.int s.1, .str (wayS s.2)]
def okSd (qs : List Int) (ss : List Sd2) : Prop := ss.length ≤ 100 ∧ ∀ s ∈ ss, 0 ≤ s.1 ∧ s.1 < qs.length
def allows (ws qs : List Int) (ss : List Sd2) : List Int := ss.map fun s => allow ws qs s.1 s.2
def dS (ss : List Sd2) : D := .lst (ss.map encS)
def natD (n : Nat) : D := .int (n : Int)
def dF (A gs : List Nat) : D := .lst (gs.map fun g => .tup [natD g, natD (A.getD g 0)])
def pkPost (ws as : List Int) (x : D) : Prop := (x = .non ∧ ∀ idx, ¬ isPk ws as idx) ∨ ∃ idx, x = dI idx ∧ isPk ws as idx
abbrev sp_allowances_of (K : PySem.W.Frag) (C : Addr) : Sp := Sx K (fun a : (List Int × List Int) × List Sd2 => [dC C a.1.1 a.1.2, dS a.2]) (fun _ a => okSd a.1.2 a.2) fun a x => x = dI (allows a.1.1 a.1.2 a.2)
abbrev sp_all_seats (K : PySem.W.Frag) (_ : Addr) : Sp := Sx K (fun n : Nat => [natD n]) (fun _ n => n ≤ 7) fun n x => x = natD (2 ^ n - 1)
abbrev sp_holds_all (K : PySem.W.Frag) (_ : Addr) : Sp := Sx K (fun a : Nat × Nat => [natD a.1, natD a.2]) (fun _ a => a.2 ≤ 7) fun a x => x = .bl (a.1.testBit (2 ^ a.2 - 1))
abbrev sp_fitting_groups (K : PySem.W.Frag) (_ : Addr) : Sp := Sx K (fun a : List Int × List Int => [dI a.1, dI a.2]) (fun _ a => a.1.length ≤ 7 ∧ a.2.length ≤ 100) fun a x => ∃ A, ApOk a.1.length A ∧ x = .lst (a.2.map fun m => dF A (fitG a.1 a.1.length m))
abbrev sp_grown (K : PySem.W.Frag) (_ : Addr) : Sp := Sx K (fun a : Nat × List Nat × List Nat => [natD a.1, dF a.2.1 a.2.2]) (fun _ a => a.1 < 2 ^ 128 ∧ a.2.2.length ≤ 128 ∧ ∀ g ∈ a.2.2, g ≤ 128) fun a x => x = natD (grownN a.1 a.2.1 a.2.2)
abbrev sp_last_group (K : PySem.W.Frag) (_ : Addr) : Sp := Sx K (fun a : (Nat × Nat) × List Nat × List Nat => [natD a.1.1, dF a.2.1 a.2.2, natD a.1.2]) (fun _ a => a.2.2.length ≤ 128 ∧ ∃ u ∈ a.2.2, u &&& a.1.2 = u ∧ a.1.1.testBit (a.1.2 - u) = true)
  fun a x => x = natD (headN a.1.1 a.2.2 a.1.2)
abbrev sp_filling (K : PySem.W.Frag) (_ : Addr) : Sp := Sv K (fun a : List Int × List Int => [dI a.1, dI a.2]) (fun _ a => a.1.length ≤ 7 ∧ a.2.length ≤ 100) fun a o => pkV a.1 a.2 o
abbrev sp_packing (K : PySem.W.Frag) (C : Addr) : Sp := Sv K (fun a : (List Int × List Int) × List Sd2 => [dC C a.1.1 a.1.2, dS a.2]) (fun _ a => okQ a.1.1 a.1.2 ∧ okSd a.1.2 a.2) fun a o => pkV a.1.1 (allows a.1.1 a.1.2 a.2) o
theorem pkPost_of {ws as : List Int} {x : D} (h : ∃ o, x = vD o ∧ pkV ws as o) : pkPost ws as x := by
  obtain ⟨o, rfl, h⟩ := h
  match o, h with
  | none, h => exact .inl ⟨rfl, h⟩
  | some ds, h => exact .inr ⟨_, by rw [h.1]; rfl, h.2⟩
end DL

namespace DL
open PySem PySem.Spec PyProof.Rows L2
def t_allowances_of (K : PySem.W.Frag) (C : Addr) : TS :=
  (tRet (tLc (iList K (tVar 1)) (gName 2) tYes (tMeth C "allowance" (sp_C_allowance K C) [] E0 (tVar 0) (tCons (tVar 2) tNil)) [2]))
def t_filling (K : PySem.W.Frag) (C : Addr) : TS :=
  (tSeq (tAsg (tCall (sp_fitting_groups K C) [] E0 (tCons (tVar 0) (tCons (tVar 1) tNil))) (gName 2))
    (tSeq (tAsg (tLst (tCons (tC (.int 1)) tNil)) (gName 3))
    (tSeq (tFor (iList K (tVar 2)) (gName 4)
    (tDrop (tBM K "list" rAppend (tVar 3) (tCons (tCall (sp_grown K C) [] E0 (tCons (tOp (rIx K) (tVar 3) (tUn (rU fun i => .int (-i)) (tC (.int 1)))) (tCons (tVar 4) tNil))) tNil))))
    (tSeq (tIfS (tNot (tB (tCall (sp_holds_all K C) [] E0 (tCons (tOp (rIx K) (tVar 3) (tUn (rU fun i => .int (-i)) (tC (.int 1)))) (tCons (tCB (DL.rLen K) (tCons (tVar 0) tNil)) tNil)))))
    (tRet (tC .non))
    tNext)
    (tSeq (tAsg (tOp rRep (tLst (tCons (tC (.int 0)) tNil)) (tCB (DL.rLen K) (tCons (tVar 0) tNil))) (gName 5))
    (tSeq (tAsg (tCall (sp_all_seats K C) [] E0 (tCons (tCB (DL.rLen K) (tCons (tVar 0) tNil)) tNil)) (gName 6))
    (tSeq (tFor (iRevR (tRg1 (tCB (DL.rLen K) (tCons (tVar 1) tNil)))) (gName 7)
    (tSeq (tAsg (tCall (sp_last_group K C) [] E0 (tCons (tOp (rIx K) (tVar 3) (tVar 7)) (tCons (tOp (rIx K) (tVar 2) (tVar 7)) (tCons (tVar 6) tNil)))) (gName 8))
    (tSeq (tAsg (tLc (iEnum K (tCons (tVar 5) tNil)) (gTup K 2 (gCons (gName 9) (gCons (gName 10) gNil))) tYes (tIf (tTruI K (tOp GL.rOdd (tOp GL.rShrN (tVar 8) (tVar 9)) (tC (.int 1)))) (tVar 7) (tVar 10)) [9, 10]) (gName 5))
    (tAug 6 (tVar 8) (ipI fun i j => i - j)))))
    (tRet (tVar 5)))))))))
def t_all_seats (K : PySem.W.Frag) (C : Addr) : TS :=
  (tRet (tOp (rI0 fun i j => .int (i - j)) (tOp GL.rOneShl (tC (.int 1)) (tVar 0)) (tC (.int 1))))
def t_holds_all (K : PySem.W.Frag) (C : Addr) : TS :=
  (tRet (tOp (rEqD K) (tOp GL.rOdd (tOp GL.rShrN (tVar 0) (tCall (sp_all_seats K C) [] E0 (tCons (tVar 1) tNil))) (tC (.int 1))) (tC (.int 1))))
def t_fitting_groups (K : PySem.W.Frag) (C : Addr) : TS :=
  (tSeq (tAsg (tLst (tCons (tC (.int 0)) tNil)) (gName 2))
    (tSeq (tAsg (tLst (tCons (tC (.int 1)) tNil)) (gName 3))
    (tSeq (tFor (iEnum K (tCons (tVar 0) tNil)) (gTup K 2 (gCons (gName 4) (gCons (gName 5) gNil)))
    (tSeq (tAsg (tOp rCat (tVar 2) (tLc (iList K (tVar 2)) (gName 8) tYes (tOp (rI0 fun i j => .int (i + j)) (tVar 8) (tVar 5)) [8])) (gName 2))
    (tAsg (tOp rCat (tLc (iList K (tVar 3)) (gName 9) tYes (tOp GL.rOrN (tVar 9) (tOp GL.rShlN (tVar 9) (tOp GL.rOneShl (tC (.int 1)) (tVar 4)))) [9]) (tVar 3)) (gName 3))))
    (tRet (tLc (iList K (tVar 1)) (gName 6) tYes (tLc (iEnum K (tCons (tVar 2) tNil)) (gTup K 2 (gCons (gName 7) (gCons (gName 8) gNil))) (tTest (tOp (rI0 fun i j => .bl (decide (i ≤ j))) (tVar 8) (tVar 6))) (tTup (tCons (tVar 7) (tCons (tOp (rIx K) (tVar 3) (tVar 7)) tNil))) [7, 8]) [6])))))
def t_grown (K : PySem.W.Frag) (C : Addr) : TS :=
  (tSeq (tAsg (tC (.int 0)) (gName 2))
    (tSeq (tFor (iList K (tVar 1)) (gTup K 2 (gCons (gName 3) (gCons (gName 4) gNil)))
    (tAug 2 (tOp GL.rShlN (tOp GL.rAndN (tVar 0) (tVar 4)) (tVar 3)) (ipI fun i j => PySem.Builtin.bitOr i j)))
    (tRet (tVar 2))))
def t_last_group (K : PySem.W.Frag) (C : Addr) : TS :=
  (tRet (tOp (rIx K) (tLc (iList K (tVar 1)) (gTup K 2 (gCons (gName 3) (gCons (gName 4) gNil))) (tAnd (tTest (tOp (rEqD K) (tOp GL.rAndN (tVar 3) (tVar 2)) (tVar 3))) (tTruI K (tOp GL.rOdd (tOp GL.rShrN (tVar 0) (tOp (rI0 fun i j => .int (i - j)) (tVar 2) (tVar 3))) (tC (.int 1))))) (tVar 3) [3, 4]) (tC (.int 0))))
def t_packing (K : PySem.W.Frag) (C : Addr) : TS :=
  (tRet (tCall (sp_filling K C) [] E0 (tCons (tMeth C "weights" (sp_C_weights K C) [] E0 (tVar 0) tNil) (tCons (tCall (sp_allowances_of K C) [] E0 (tCons (tVar 0) (tCons (tVar 1) tNil))) tNil))))
end DL

namespace DL
open PySem PySem.Spec PyProof.Rows L2
section
variable {K : PySem.W.Frag} {C : Addr} {b : Bg} {P : Po}
theorem pow7 {n : Nat} (h : n ≤ 7) : 2 ^ n ≤ 128 := Nat.le_trans (Nat.pow_le_pow_right (by decide) h) (by decide)
theorem w_allowances_of (cf : CF K C) {ws qs : List Int} {ss : List Sd2} (hs : okSd qs ss) (k : P.rt (dI (allows ws qs ss))) : wps K b (t_allowances_of K C) [.d (dC C ws qs), .d (dS ss), .u] P := by
  unfold t_allowances_of
  have hl := hs.1
  refine wps_ret (wpe_l (wpl_gen1 (R := fun j y => ∃ s, ss[j]? = some s ∧ y = .int (allow ws qs s.1 s.2)) (wpi_list (wpe_var (by rfl) ⟨_, rfl, by rw [List.length_map]; omega, fun j d hd => ?_, fun acc hl hR => ?_⟩))))
  · obtain ⟨s, hs', rfl, hm⟩ := map_mem hd
    exact wpe_methx (wpe_var (by rfl) ⟨_, _, rfl, no_allowance, wpa_cons (wpe_var (by rfl) (wpa_nil ⟨((ws, qs), s.1, s.2), rfl, hs.2 s hm, fun y hy => ⟨s, hs', hy⟩⟩))⟩)
  · have e : acc = (allows ws qs ss).map D.int := by
      rw [List.length_map] at hl
      refine list_of_get (by rw [hl]; simp [allows]) fun i y z => ?_
      obtain ⟨s, hs', rfl⟩ := hR i y z
      unfold allows
      rw [List.getElem?_map, List.getElem?_map, hs']; rfl
    subst e
    exact k
theorem sub1 (n : Nat) : (((2 ^ n : Nat) : Int)) - 1 = ((2 ^ n - 1 : Nat) : Int) := by
  have := Nat.two_pow_pos n
  omega
theorem w_all_seats {n : Nat} (h : n ≤ 7) (k : P.rt (natD (2 ^ n - 1))) : wps K b (t_all_seats K C) [.d (natD n)] P := by
  unfold t_all_seats
  refine wps_ret (wpe_op (wpe_op (wpe_int (wpe_var (by rfl) (rd_oneShlM (by omega) (wpe_int (rd_I0i ?_)))))))
  rw [sub1]; exact k
theorem w_holds_all {f n : Nat} (h : n ≤ 7) (k : P.rt (.bl (f.testBit (2 ^ n - 1)))) : wps K b (t_holds_all K C) [.d (natD f), .d (natD n)] P := by
  unfold t_holds_all
  refine wps_ret (wpe_op (wpe_op (wpe_op (wpe_var (by rfl) (wpe_callx (wpa_cons (wpe_var (by rfl) (wpa_nil ⟨n, rfl, h, fun x hx => ?_⟩))))))))
  subst hx
  refine rd_shrM (wpe_int (rd_odd (wpe_int (rd_eqD 9 (by decide) rfl rfl ?_))))
  rw [eqi]
  have e : decide ((((f / 2 ^ (2 ^ n - 1) % 2 : Nat)) : Int) = 1) = f.testBit (2 ^ n - 1) := by
    rw [Nat.testBit_eq_decide_div_mod_eq]
    congr 1
    simp only [eq_iff_iff]
    omega
  rw [e]; exact k
def natDs (A : List Nat) : D := .lst (A.map natD)
theorem w_fitting_groups {ws as : List Int} (h : ws.length ≤ 7) (ha : as.length ≤ 100) (k : ∀ A, ApOk ws.length A → P.rt (.lst (as.map fun m => dF A (fitG ws ws.length m)))) :
    wps K b (t_fitting_groups K C) [.d (dI ws), .d (dI as), .u, .u, .u, .u, .u, .u, .u, .u] P := by
  unfold t_fitting_groups
  refine wps_seq (wps_asg (wpe_l (wpl_lst (wpa_cons (wpe_int (wpa_nil ⟨len_le rfl, ?_⟩))))))
  refine wps_seq (wps_asg (wpe_l (wpl_lst (wpa_cons (wpe_int (wpa_nil ⟨len_le rfl, ?_⟩))))))
  refine wps_seq (wps_for [4, 5] (wpi_enum (wpa_cons (wpe_var (by rfl) (wpa_nil ⟨_, rfl, fun i E => ∃ A a4 a5, ApOk i A ∧ E = [.d (dI ws), .d (dI as), .d (dI (sumsOf ws i)), .d (natDs A), a4, a5, .u, .u, .u, .u], ⟨[1], _, _, ap_zero, rfl⟩, fun i d E hd hI => ?_, fun E hI => ?_⟩)))))
  · obtain ⟨A, a4, a5, hA, rfl⟩ := hI
    rw [enumD_get, List.getElem?_map] at hd
    have hi : i < ws.length := by
      by_cases z : i < ws.length
      · exact z
      · rw [List.getElem?_eq_none (by omega)] at hd; cases hd
    have ew : ws[i]? = some (rget ws (i : Nat)) := by unfold rget; rw [Int.toNat_natCast, List.getD, List.getElem?_eq_getElem hi]; rfl
    rw [ew] at hd
    cases hd
    have hp := pow7 (show i ≤ 7 by omega)
    have hsl : (sumsOf ws i).length = 2 ^ i := by unfold sumsOf; rw [List.length_map, List.length_range]
    have hal := hA.1
    refine wpg_tup (by rfl) (wpgs_cons (wpg_name (by simp) (wpgs_cons (wpg_name (by simp) (wpgs_nil ?_)))))
    refine wps_seq (wps_asg (wpe_l (wpl_op (wpe_var (by rfl) (wpe_l (wpl_gen1 (R := fun j y => ∃ t, (sumsOf ws i)[j]? = some t ∧ y = .int (t + rget ws (i : Nat))) (wpi_list (wpe_var (by rfl) ⟨_, rfl, by rw [List.length_map]; omega, fun j d hd => ?_, fun acc hl hR => ?_⟩))))))))
    · obtain ⟨t, ht, rfl, hm⟩ := map_mem hd
      exact wpe_op (wpe_var (by rfl) (wpe_var (by rfl) (rd_I0i ⟨t, ht, rfl⟩)))
    · have e : acc = ((sumsOf ws i).map fun t => t + rget ws (i : Nat)).map D.int := by
        rw [List.length_map] at hl
        refine list_of_get (by rw [hl]; simp) fun i y z => ?_
        obtain ⟨g, hg, rfl⟩ := hR i y z
        rw [List.getElem?_map, List.getElem?_map, hg]; rfl
      subst e
      refine rd_cat (by simp; omega) ?_
      rw [← List.map_append, ← sumsOf_succ]
      refine wps_asg (wpe_l (wpl_op (wpe_l (wpl_gen1 (R := fun j y => ∃ f, A[j]? = some f ∧ y = natD (f ||| f * 2 ^ 2 ^ i)) (wpi_list (wpe_var (by rfl) ⟨_, rfl, by rw [List.length_map]; omega, fun j d hd => ?_, fun acc hl hR => ?_⟩))))))
      · obtain ⟨f, hf, rfl, hm⟩ := map_mem hd
        have hf2 := (hA.2 j f hf).1
        have hf3 : f < 2 ^ 1000 := Nat.lt_of_lt_of_le hf2 (Nat.pow_le_pow_right (by decide) (by omega))
        exact wpe_op (wpe_var (by rfl) (wpe_op (wpe_var (by rfl) (wpe_op (wpe_int (wpe_var (by rfl) (rd_oneShlM (k := i) (by omega) (rd_shlN hf3 (by omega) (rd_orN ⟨f, hf, rfl⟩)))))))))
      · have e : acc = (A.map fun f => f ||| f * 2 ^ 2 ^ i).map natD := by
          rw [List.length_map] at hl
          refine list_of_get (by rw [hl]; simp) fun i y z => ?_
          obtain ⟨g, hg, rfl⟩ := hR i y z
          rw [List.getElem?_map, List.getElem?_map, hg]; rfl
        subst e
        refine wpe_var (by rfl) (rd_cat (by simp; omega) ?_)
        rw [← List.map_append]
        exact ⟨_, _, _, ap_succ hA, rfl⟩
  · obtain ⟨A, a4, a5, hA, rfl⟩ := hI
    rw [enumD_len, List.length_map] at hA ⊢
    have hp := pow7 h
    have hal := hA.1
    refine wps_ret (wpe_l (wpl_gen1 (R := fun j y => ∃ m, as[j]? = some m ∧ y = dF A (fitG ws ws.length m)) (wpi_list (wpe_var (by rfl) ⟨_, rfl, by rw [List.length_map]; omega, fun j d hd => ?_, fun acc hl hR => ?_⟩))))
    · obtain ⟨m, hm', rfl, hm⟩ := map_mem hd
      have hsl : (sumsOf ws ws.length).length = 2 ^ ws.length := by unfold sumsOf; rw [List.length_map, List.length_range]
      refine wpe_l (wpl_lc (wpi_enum (wpa_cons (wpe_var (by rfl) (wpa_nil ⟨_, rfl, by rw [enumD_len, List.length_map]; omega, fun i acc => acc = ((List.range i).filter fun g => decide (wsumN ws ws.length g ≤ m)).map (fun g => D.tup [natD g, natD (A.getD g 0)]), rfl, fun i d acc hd hl hI => ?_, fun acc hI => ?_⟩)))))
      · subst hI
        rw [enumD_get, List.getElem?_map] at hd
        have hi : i < 2 ^ ws.length := by
          by_cases z : i < 2 ^ ws.length
          · exact z
          · rw [List.getElem?_eq_none (by omega)] at hd; cases hd
        have es : (sumsOf ws ws.length)[i]? = some (wsumN ws ws.length i) := by unfold sumsOf; rw [List.getElem?_map, List.getElem?_range hi]; rfl
        rw [es] at hd
        cases hd
        refine wpg_tup (by rfl) (wpgs_cons (wpg_name (by simp) (wpgs_cons (wpg_name (by simp) (wpgs_nil ?_)))))
        refine wpt_test (wpe_op (wpe_var (by rfl) (wpe_var (by rfl) (rd_I0b ⟨_, rfl, ifB (fun z => ?_) (fun z => ?_)⟩))))
        · have ea : atI (A.map natD) ((i : Nat) : Int) = some (natD (A.getD i 0)) := by
            have hi' : i < A.length := by omega
            unfold atI ixN
            rw [if_pos (Int.natCast_nonneg i), if_pos (by rw [List.length_map]; omega), Option.bind_some, Int.toNat_natCast, List.getElem?_map, List.getD, List.getElem?_eq_getElem hi']; rfl
          refine wpe_tup (wpa_cons (wpe_var (by rfl) (wpa_cons (wpe_op (wpe_var (by rfl) (wpe_var (by rfl) (rd_ixl ea (wpa_nil ⟨len_le rfl, ?_⟩))))))))
          show _ = _
          rw [filt_snoc, z, if_pos rfl]; rfl
        · show _ = _
          rw [filt_snoc, z, if_neg Bool.false_ne_true, List.append_nil]
      · rw [enumD_len, List.length_map, hsl] at hI
        subst hI
        exact ⟨m, hm', rfl⟩
    · have e : acc = as.map fun m => dF A (fitG ws ws.length m) := by
        rw [List.length_map] at hl
        refine list_of_get (by rw [hl]; simp) fun i y z => ?_
        obtain ⟨g, hg, rfl⟩ := hR i y z
        rw [List.getElem?_map, hg]; rfl
      subst e
      exact k A hA
theorem w_grown {f : Nat} {A gs : List Nat} (hf : f < 2 ^ 128) (hl : gs.length ≤ 128) (hg : ∀ g ∈ gs, g ≤ 128) (k : P.rt (natD (grownN f A gs))) : wps K b (t_grown K C) [.d (natD f), .d (dF A gs), .u, .u, .u] P := by
  unfold t_grown
  refine wps_seq (wps_asg (wpe_int ?_))
  refine wps_seq (wps_for [3, 4] (wpi_list (wpe_var (by rfl) ⟨_, rfl, fun i E => ∃ a3 a4, E = [.d (natD f), .d (dF A gs), .d (natD (grownN f A (gs.take i))), a3, a4], ⟨_, _, rfl⟩, fun i d E hd hI => ?_, fun E hI => ?_⟩)))
  · obtain ⟨a3, a4, rfl⟩ := hI
    obtain ⟨g, hg', rfl, hm⟩ := map_mem hd
    have hb : f &&& A.getD g 0 < 2 ^ 1000 := Nat.lt_of_le_of_lt Nat.and_le_left (Nat.lt_of_lt_of_le hf (Nat.pow_le_pow_right (by decide) (by decide)))
    have h128 := hg g hm
    refine wpg_tup (by rfl) (wpgs_cons (wpg_name (by simp) (wpgs_cons (wpg_name (by simp) (wpgs_nil ?_)))))
    refine wps_augI (by rfl) (wpe_op (wpe_op (wpe_var (by rfl) (wpe_var (by rfl) (rd_andN (wpe_var (by rfl) (rd_shlN hb (by omega) ⟨_, rfl, ?_⟩)))))))
    rw [GL.bitOr_nat]
    refine ⟨.d (natD g), .d (natD (A.getD g 0)), ?_⟩
    have e : grownN f A (gs.take (i + 1)) = grownN f A (gs.take i) ||| (f &&& A.getD g 0) * 2 ^ g := by
      unfold grownN
      rw [take_succ' hg', List.foldl_append]; rfl
    rw [e]; rfl
  · obtain ⟨a3, a4, rfl⟩ := hI
    rw [List.length_map, List.take_length]
    exact wps_ret (wpe_var (by rfl) k)
theorem atI_nat {fs : List Nat} {i f : Nat} (h : fs[i]? = some f) : atI (fs.map natD) ((i : Nat) : Int) = some (natD f) := by
  have hi := (List.getElem?_eq_some_iff.mp h).1
  unfold atI ixN
  rw [if_pos (Int.natCast_nonneg i), if_pos (by rw [List.length_map]; omega), Option.bind_some, Int.toNat_natCast, List.getElem?_map, h]; rfl
theorem atI_get {ds : List D} {i : Nat} {d : D} (h : ds[i]? = some d) : atI ds ((i : Nat) : Int) = some d := by
  have hi := (List.getElem?_eq_some_iff.mp h).1
  unfold atI ixN
  rw [if_pos (Int.natCast_nonneg i), if_pos (by omega), Option.bind_some, Int.toNat_natCast, h]
theorem atI_last {fs : List Nat} {i f : Nat} (hl : fs.length = i + 1) (h : fs[i]? = some f) : atI (fs.map natD) (-1) = some (natD f) := by
  unfold atI ixN
  have e : ((fs.map natD).length : Int) = i + 1 := by rw [List.length_map, hl]; rfl
  rw [if_neg (by decide), if_pos (by rw [e]; omega), Option.bind_some]
  have e2 : (-1 + ((fs.map natD).length : Int)).toNat = i := by rw [e]; omega
  rw [e2, List.getElem?_map, h]; rfl
theorem w_last_group {f left : Nat} {A gs : List Nat} (hl : gs.length ≤ 128) (he : ∃ u ∈ gs, u &&& left = u ∧ f.testBit (left - u) = true)
    (k : P.rt (natD (headN f gs left))) : wps K b (t_last_group K C) [.d (natD f), .d (dF A gs), .d (natD left), .u, .u] P := by
  unfold t_last_group
  refine wps_ret (wpe_op (wpe_l (wpl_lc (wpi_list (wpe_var (by rfl) ⟨_, rfl, by rw [List.length_map]; omega, fun i acc => acc = ((gs.take i).filter fun u => decide (u &&& left = u) && f.testBit (left - u)).map natD, rfl, fun i d acc hd hl hI => ?_, fun acc hI => ?_⟩)))))
  · obtain ⟨g, hg', rfl, hm⟩ := map_mem hd
    subst hI
    refine wpg_tup (by rfl) (wpgs_cons (wpg_name (by simp) (wpgs_cons (wpg_name (by simp) (wpgs_nil ?_)))))
    have fin : ∀ c, (decide (g &&& left = g) && f.testBit (left - g)) = c → ((gs.take (i + 1)).filter fun u => decide (u &&& left = u) && f.testBit (left - u)).map natD = ((gs.take i).filter fun u => decide (u &&& left = u) && f.testBit (left - u)).map natD ++ (if c = true then [natD g] else []) := fun c hc => by
      rw [filter_succ hg', List.map_append, hc]
      cases c <;> rfl
    refine wpt_and (wpt_test (wpe_op (wpe_op (wpe_var (by rfl) (wpe_var (by rfl) (rd_andN (wpe_var (by rfl) (rd_eqD 9 (by decide) rfl rfl ⟨_, rfl, ?_⟩))))))))
    have e1 : D.eq (.int (((g &&& left : Nat)) : Int)) (natD g) = decide (g &&& left = g) := by
      rw [show D.eq (.int (((g &&& left : Nat)) : Int)) (natD g) = _ from eqi _ _]
      congr 1
      simp only [eq_iff_iff]
      omega
    rw [e1]
    refine ifB (fun z => ?_) (fun z => ?_)
    · have hz := of_decide_eq_true z
      have hle := (sub_part hz).1
      refine wpt_bit (wpe_var (by rfl) ⟨f, rfl, wpe_op (wpe_var (by rfl) (wpe_var (by rfl) (rd_I0i ⟨left - g, by congr 1; omega, ?_⟩)))⟩)
      refine ifB (fun y => wpe_var (by rfl) ?_) (fun y => ?_)
      · show _ = _
        rw [fin true (by rw [z, y]; rfl)]; rfl
      · show _ = _
        rw [fin false (by rw [z, y]; rfl), if_neg Bool.false_ne_true, List.append_nil]
    · refine ifF ?_
      show _ = _
      rw [fin false (by rw [z]; rfl), if_neg Bool.false_ne_true, List.append_nil]
  · rw [List.length_map, List.take_length] at hI
    subst hI
    obtain ⟨u, hu, h1, h2⟩ := he
    have hm : u ∈ gs.filter fun u => decide (u &&& left = u) && f.testBit (left - u) := List.mem_filter.mpr ⟨hu, by rw [decide_eq_true h1, h2]; rfl⟩
    have hx : atI ((gs.filter fun u => decide (u &&& left = u) && f.testBit (left - u)).map natD) ((0 : Nat) : Int) = some (natD (headN f gs left)) := by
      unfold headN
      cases hf : gs.filter fun u => decide (u &&& left = u) && f.testBit (left - u) with
      | nil => rw [hf] at hm; cases hm
      | cons x xs => exact atI_nat (i := 0) (by rfl)
    exact wpe_int (rd_ixl hx k)
theorem w_filling {ws as : List Int} (h : ws.length ≤ 7) (ha : as.length ≤ 100) (k1 : pkV ws as none → P.rt .non) (k2 : ∀ ds, pkV ws as (some ds) → P.rl ds) :
    wps K b (t_filling K C) [.d (dI ws), .d (dI as), .u, .u, .u, .u, .u, .u, .u, .u, .u] P := by
  unfold t_filling
  have hp := pow7 h
  have e2l : ((ws, as) : List Int × List Int).2.length = as.length := rfl
  have h128 : 2 ^ 2 ^ ws.length ≤ 2 ^ 128 := Nat.pow_le_pow_right (by decide) hp
  refine wps_seq (wps_asg (wpe_callx (wpa_cons (wpe_var (by rfl) (wpa_cons (wpe_var (by rfl) (wpa_nil ⟨(ws, as), rfl, ⟨h, ha⟩, fun x hx => ?_⟩)))))))
  obtain ⟨A, hA, rfl⟩ := hx
  have fitOk : ∀ (m : Int), (fitG ws ws.length m).length ≤ 128 ∧ ∀ g ∈ fitG ws ws.length m, g ≤ 128 := fun m => by
    refine ⟨?_, fun g hg => by have := (fitG_mem.mp hg).1; omega⟩
    have := List.length_filter_le (fun g => decide (wsumN ws ws.length g ≤ m)) (List.range (2 ^ ws.length))
    rw [List.length_range] at this
    unfold fitG; omega
  refine wps_seq (wps_asgl (wpl_lst (wpa_cons (wpe_int (wpa_nil ⟨len_le rfl, ?_⟩)))))
  refine wps_seq (wps_for [4] (wpi_list (wpe_var (by rfl) ⟨_, rfl, fun i E => ∃ (fs : List Nat) (a4 : En), fs.length = i + 1 ∧ (∀ j f, fs[j]? = some f → FamOk ws as ws.length j f) ∧
    E = [.d (dI ws), .d (dI as), .d (.lst (as.map fun m => dF A (fitG ws ws.length m))), .o (fs.map natD), a4, .u, .u, .u, .u, .u, .u], ⟨[1], _, rfl, fun j f z => ?_, rfl⟩, fun i d E hd hI => ?_, fun E hI => ?_⟩)))
  · have : j = 0 := by have := (List.getElem?_eq_some_iff.mp z).1; simp at this; exact this
    subst this
    cases z
    exact fam_zero ws as ws.length
  · obtain ⟨fs, a4, hl, hfs, rfl⟩ := hI
    obtain ⟨m, hm, rfl, _⟩ := map_mem hd
    have hi := (List.getElem?_eq_some_iff.mp hm).1
    rw [e2l] at hi
    have em : m = rget as (i : Nat) := by unfold rget; rw [Int.toNat_natCast, List.getD, hm]; rfl
    have hif : i < fs.length := by omega
    have ef : fs[i]? = some fs[i] := List.getElem?_eq_getElem hif
    generalize fs[i] = f at ef
    have hf := hfs i f ef
    refine wpg_name (by simp) ?_
    refine wps_append (by rfl) (wpe_callx (wpa_cons (wpe_ixo' (i := 3) (by rfl) (wpe_un (wpe_int (rd_neg ⟨-1, natD f, rfl, atI_last hl ef, wpa_cons (wpe_var (by rfl) (wpa_nil ⟨(f, A, fitG ws ws.length m), rfl, ⟨Nat.lt_of_lt_of_le hf.1 h128, fitOk m⟩, fun x hx => ⟨by rw [List.length_map]; omega, ?_⟩⟩))⟩))))))
    subst hx
    refine ⟨fs ++ [grownN f A (fitG ws ws.length m)], .d (dF A (fitG ws ws.length m)), by rw [List.length_append, hl]; rfl, fun j g z => ?_, ?_⟩
    · rcases get_snoc z with z | ⟨z1, rfl⟩
      · exact hfs j g z
      · rw [z1, hl, em]
        exact fam_succ hA hf
    · rw [List.map_append]; rfl
  · obtain ⟨fs, a4, hl, hfs, rfl⟩ := hI
    rw [List.length_map, e2l] at hl
    have hif : as.length < fs.length := by omega
    have ef : fs[as.length]? = some fs[as.length] := List.getElem?_eq_getElem hif
    generalize fs[as.length] = f at ef
    have hf := hfs _ f ef
    refine wps_frz 3 (by rfl) ?_
    refine wps_seq (wps_if (wpt_not (wpt_B (wpe_callx (wpa_cons (wpe_op (wpe_var (by rfl) (wpe_un (wpe_int (rd_neg (rd_ixl (atI_last hl ef) (wpa_cons (wpe_cb (wpa_cons (wpe_var (by rfl) (wpa_nil (rc_lenL ?_)))))))))))))))))
    rw [List.length_map]
    refine wpa_nil ⟨(f, ws.length), rfl, h, fun x hx => ⟨_, hx, ?_⟩⟩
    refine ifB (fun z => ?_) (fun z => ?_)
    · refine wps_ret (wpe_non (k1 fun idx hidx => ?_))
      have := (hf.2 _).mpr (fam_all hidx)
      rw [this] at z
      cases z
    · have hall : FamP ws as ws.length as.length (2 ^ ws.length - 1) := (hf.2 _).mp (by
        have z' : (!f.testBit (2 ^ ws.length - 1)) = false := z
        simpa using z')
      refine wps_next ?_
      refine wps_seq (wps_asgl (wpl_op (wpe_l (wpl_lst (wpa_cons (wpe_int (wpa_nil ⟨len_le rfl, wpe_cb (wpa_cons (wpe_var (by rfl) (wpa_nil (rc_lenL ?_))))⟩)))))))
      rw [List.length_map]
      refine rd_rep1 (by omega) ?_
      refine wps_seq (wps_asg (wpe_callx (wpa_cons (wpe_cb (wpa_cons (wpe_var (by rfl) (wpa_nil (rc_lenL ?_)))))))) 
      rw [List.length_map]
      refine wpa_nil ⟨ws.length, rfl, h, fun x hx => ?_⟩
      subst hx
      refine wps_seq (wps_for [7] (wpi_revR (wpe_cb (wpa_cons (wpe_var (by rfl) (wpa_nil (rc_lenL ?_)))))))
      rw [List.length_map]
      refine ⟨as.length, rfl, by omega, fun j E => ∃ (idx : List Int) (left : Nat) (a7 a8 : En), (PutOk ws as idx (as.length - j) left ∧ pkRun ws as j = (idx, left)) ∧
        E = [.d (dI ws), .d (dI as), .d (.lst (as.map fun m => dF A (fitG ws ws.length m))), .d (.lst (fs.map natD)), a4, .o (idx.map D.int), .d (natD left), a7, a8, .u, .u], ⟨List.replicate ws.length 0, 2 ^ ws.length - 1, .u, .u, ⟨put_first hall, rfl⟩, ?_⟩, fun j d E hd hI => ?_, fun E hI => ?_⟩
      · rw [List.map_replicate]; rfl
      · obtain ⟨idx, left, a7, a8, ⟨hput, hrun⟩, rfl⟩ := hI
        have hj : j < as.length := by
          have := (List.getElem?_eq_some_iff.mp hd).1
          rw [List.length_map, List.length_range] at this; exact this
        rw [List.getElem?_map, List.getElem?_range hj] at hd
        cases hd
        obtain ⟨i, hi⟩ : ∃ i, i = as.length - 1 - j := ⟨_, rfl⟩
        have e1 : as.length - j = i + 1 := by omega
        have e2 : as.length - (j + 1) = i := by omega
        rw [e1] at hput
        show wpg K b [7] (gName 7) (.int ((as.length - 1 - j : Nat) : Int)) _ _
        rw [← hi]
        have hia : i < as.length := by omega
        have hif' : i < fs.length := by omega
        have eg : fs[i]? = some fs[i] := List.getElem?_eq_getElem hif'
        generalize fs[i] = g at eg
        have hg := hfs i g eg
        have em : as[i]? = some (rget as (i : Nat)) := by unfold rget; rw [Int.toNat_natCast, List.getD, List.getElem?_eq_getElem hia]; rfl
        have efit : (as.map fun m => dF A (fitG ws ws.length m))[i]? = some (dF A (fitG ws ws.length (rget as (i : Nat)))) := by rw [List.getElem?_map, em]; rfl
        have hex : ∃ u ∈ fitG ws ws.length (rget as (i : Nat)), u &&& left = u ∧ g.testBit (left - u) = true := by
          obtain ⟨u, y, u1, u2, u3, u4, u5, rfl⟩ := hput.2.2.1
          exact ⟨u, fitG_mem.mpr ⟨u1, u2⟩, part_of_add u5, by rw [show y + u - u = y by omega]; exact (hg.2 _).mpr u3⟩
        refine wpg_name (by simp) ?_
        refine wps_seq (wps_asg (wpe_callx (wpa_cons (wpe_op (wpe_var (by rfl) (wpe_var (by rfl) (rd_ixl (atI_nat eg) ?_)))))))
        refine wpa_cons (wpe_op (wpe_var (by rfl) (wpe_var (by rfl) (rd_ixl (atI_get efit) (wpa_cons (wpe_var (by rfl) (wpa_nil ⟨((g, left), A, fitG ws ws.length (rget as (i : Nat))), rfl, ⟨(fitOk _).1, hex⟩, fun x hx => ?_⟩)))))))
        subst hx
        obtain ⟨hu, h1, h2⟩ := headN_spec hex
        obtain ⟨u, hu'⟩ : ∃ u, headN g (fitG ws ws.length (rget as (i : Nat))) left = u := ⟨_, rfl⟩
        rw [hu'] at hu h1 h2 ⊢
        obtain ⟨u1, u2⟩ := fitG_mem.mp hu
        have hil : idx.length = ws.length := hput.1
        refine wps_seq (wps_asgl (wpl_lend2 5 (ds := idx.map D.int) (by rfl) (wpl_gen2 (R := fun q y => q < idx.length ∧ y = .int (rget (putIn u (i : Nat) idx) (q : Nat))) (wpi_enum (wpa_cons (wpe_var (by rfl) (wpa_nil ⟨_, rfl, by rw [enumD_len, List.length_map]; omega, fun q d hd => ?_, fun acc hl hR => ?_⟩)))))))
        · rw [enumD_get, List.getElem?_map] at hd
          have hq : q < idx.length := by
            by_cases z : q < idx.length
            · exact z
            · rw [List.getElem?_eq_none (by omega)] at hd; cases hd
          have eq1 : idx[q]? = some (rget idx (q : Nat)) := by unfold rget; rw [Int.toNat_natCast, List.getD, List.getElem?_eq_getElem hq]; rfl
          rw [eq1] at hd
          cases hd
          refine ⟨_, _, rfl, wpe_if (wpt_bit (wpe_var (by rfl) ⟨u, rfl, wpe_var (by rfl) ⟨q, rfl, ifB (fun z => wpe_var (by rfl) ⟨hq, ?_⟩) (fun z => wpe_var (by rfl) ⟨hq, ?_⟩)⟩⟩))⟩
          · rw [putIn_get hq, if_pos z]
          · rw [putIn_get hq, if_neg (by rw [z]; exact Bool.false_ne_true)]
        · have e : acc = (putIn u (i : Nat) idx).map D.int := by
            rw [enumD_len, List.length_map] at hl
            refine list_of_get (by rw [hl, List.length_map, putIn_len]) fun q y z => ?_
            obtain ⟨hq, rfl⟩ := hR q y z
            have hq' : q < (putIn u (i : Nat) idx).length := by rw [putIn_len]; exact hq
            rw [List.getElem?_map, List.getElem?_eq_getElem hq']
            unfold rget
            rw [Int.toNat_natCast, List.getD, List.getElem?_eq_getElem hq']; rfl
          subst e
          refine ⟨nlA_ints _, ?_⟩
          refine wps_augI (by rfl) (wpe_var (by rfl) ⟨_, rfl, ?_⟩)
          have hle : u ≤ left := (sub_part h1).1
          refine ⟨putIn u (i : Nat) idx, left - u, .d (natD i), .d (natD u), ⟨by rw [e2]; exact put_succ hia hput u1 u2 h1 ((hg.2 _).mp h2), ?_⟩, ?_⟩
          · show (putIn (headN (famC ws as (as.length - 1 - j)) (fitG ws ws.length (rget as ((as.length - 1 - j : Nat) : Int))) (pkRun ws as j).2) ((as.length - 1 - j : Nat) : Int) (pkRun ws as j).1, (pkRun ws as j).2 - headN (famC ws as (as.length - 1 - j)) (fitG ws ws.length (rget as ((as.length - 1 - j : Nat) : Int))) (pkRun ws as j).2) = _
            rw [hrun, ← hi, ← famC_eq hg]
            show (putIn (headN g (fitG ws ws.length (rget as (i : Nat))) left) (i : Nat) idx, left - headN g (fitG ws ws.length (rget as (i : Nat))) left) = _
            rw [hu']
          have e3 : ((left : Nat) : Int) - (u : Nat) = ((left - u : Nat) : Int) := by omega
          rw [e3]; rfl
      · obtain ⟨idx, left, a7, a8, ⟨hput, hrun⟩, rfl⟩ := hI
        rw [List.length_map, List.length_range, Nat.sub_self] at hput
        rw [List.length_map, List.length_range] at hrun
        have e : pkF ws as = idx := by unfold pkF; rw [hrun]
        exact wps_reto (by rfl) (k2 _ ⟨by rw [e], by rw [e]; exact put_end hput⟩)
theorem w_packing {ws qs : List Int} {ss : List Sd2} (h : okQ ws qs) (hs : okSd qs ss) (k1 : pkV ws (allows ws qs ss) none → P.rt .non) (k2 : ∀ ds, pkV ws (allows ws qs ss) (some ds) → P.rl ds) : wps K b (t_packing K C) [.d (dC C ws qs), .d (dS ss)] P := by
  unfold t_packing
  refine wps_retv (wpv_call (wpa_cons (wpe_l (wpl_methy (wpe_var (by rfl) ⟨_, _, rfl, no_weights, wpa_nil ⟨(ws, qs), rfl, trivial, fun es he => ?_⟩⟩)))))
  subst he
  refine wpa_cons (wpe_callx (wpa_cons (wpe_var (by rfl) (wpa_cons (wpe_var (by rfl) (wpa_nil ⟨((ws, qs), ss), rfl, hs, fun x hx => ?_⟩))))))
  subst hx
  refine wpa_nil ⟨(ws, allows ws qs ss), rfl, ⟨h.1.2, by unfold allows; rw [List.length_map]; exact hs.1⟩, fun o ho => ?_⟩
  match o, ho with
  | none, ho => exact k1 ho
  | some ds, ho => exact k2 ds ho
end
section
variable {K : PySem.W.Frag} {C : Addr} {vs : List V} {H : Hp} {Q : VK} {EE : XK}
theorem ln_allowances_of (h : sp_allowances_of K C vs H Q EE) : vs.length = 2 := ln_x h fun _ => rfl
theorem ln_all_seats (h : sp_all_seats K C vs H Q EE) : vs.length = 1 := ln_x h fun _ => rfl
theorem ln_holds_all (h : sp_holds_all K C vs H Q EE) : vs.length = 2 := ln_x h fun _ => rfl
theorem ln_fitting_groups (h : sp_fitting_groups K C vs H Q EE) : vs.length = 2 := ln_x h fun _ => rfl
theorem ln_grown (h : sp_grown K C vs H Q EE) : vs.length = 2 := ln_x h fun _ => rfl
theorem ln_last_group (h : sp_last_group K C vs H Q EE) : vs.length = 3 := ln_x h fun _ => rfl
theorem ln_filling (h : sp_filling K C vs H Q EE) : vs.length = 2 := ln_v h fun _ => rfl
theorem ln_packing (h : sp_packing K C vs H Q EE) : vs.length = 2 := ln_v h fun _ => rfl
theorem r_allowances_of (cf : CF K C) (h : sp_allowances_of K C vs H Q EE) : t_allowances_of K C (De Q) (L2.start ["council", "sides", "side"] vs) H := r_x2 (N := ["council", "sides", "side"]) h (fun b a hp => w_allowances_of cf hp rfl)
theorem r_all_seats (cf : CF K C) (h : sp_all_seats K C vs H Q EE) : t_all_seats K C (De Q) (L2.start ["many"] vs) H := r_x2 (N := ["many"]) h (fun b a hp => w_all_seats hp rfl)
theorem r_holds_all (cf : CF K C) (h : sp_holds_all K C vs H Q EE) : t_holds_all K C (De Q) (L2.start ["family", "many"] vs) H := r_x2 (N := ["family", "many"]) h (fun b a hp => w_holds_all hp rfl)
theorem r_fitting_groups (cf : CF K C) (h : sp_fitting_groups K C vs H Q EE) : t_fitting_groups K C (De Q) (L2.start ["weights", "allowances", "sums", "apart", "seat", "weight", "most", "group", "total", "family"] vs) H := r_x2 (N := ["weights", "allowances", "sums", "apart", "seat", "weight", "most", "group", "total", "family"]) h (fun b a hp => w_fitting_groups hp.1 hp.2 fun A hA => ⟨A, hA, rfl⟩)
theorem r_grown (cf : CF K C) (h : sp_grown K C vs H Q EE) : t_grown K C (De Q) (L2.start ["family", "groups", "grown", "group", "apart"] vs) H := r_x2 (N := ["family", "groups", "grown", "group", "apart"]) h (fun b a hp => w_grown hp.1 hp.2.1 hp.2.2 rfl)
theorem r_last_group (cf : CF K C) (h : sp_last_group K C vs H Q EE) : t_last_group K C (De Q) (L2.start ["family", "groups", "left", "group", "_"] vs) H := r_x2 (N := ["family", "groups", "left", "group", "_"]) h (fun b a hp => w_last_group hp.1 hp.2 rfl)
theorem r_filling (cf : CF K C) (h : sp_filling K C vs H Q EE) : t_filling K C (De Q) (L2.start ["weights", "allowances", "fitting", "families", "groups", "indexes", "left", "index", "group", "seat", "kept"] vs) H := r_v2 (N := ["weights", "allowances", "fitting", "families", "groups", "indexes", "left", "index", "group", "seat", "kept"]) h (fun b a hp => w_filling hp.1 hp.2 (fun h => ⟨rfl, h⟩) fun _ h => h)
theorem r_packing (cf : CF K C) (h : sp_packing K C vs H Q EE) : t_packing K C (De Q) (L2.start ["council", "sides"] vs) H := r_v2 (N := ["council", "sides"]) h (fun b a hp => w_packing hp.1 hp.2 (fun h => ⟨rfl, h⟩) fun _ h => h)
end
end DL

namespace DL
open PySem PySem.Spec PyProof.Rows L2
theorem units1 {A : Around} {k : Nat} (hr : Room k A) : A.units + 1 < cLine := by have := room100 hr; omega
section
variable {K : PySem.W.Frag} {C : Addr} {b : Bg} {P : Po} {E : Env'} {Φ : D → Prop} {ty : TE}
theorem ll_ne : ¬ (("least" : Str) = "most") := by decide +kernel
abbrev flipK : List (Key × V) := [(.inr ("least" : Str), .str ("most" : Str)), (.inr ("most" : Str), .str ("least" : Str))]
theorem flip_merge : mergeK [] flipK = flipK := by
  show putK (putK [] (Sum.inr ("least" : Str) : Key) (V.str ("most" : Str))) (Sum.inr ("most" : Str) : Key) (V.str ("least" : Str)) = _
  have e1 : putK ([] : List (Key × V)) (Sum.inr ("least" : Str)) (V.str ("most" : Str)) = [(.inr ("least" : Str), V.str ("most" : Str))] := by simp [putK]
  rw [e1]
  have hn : ¬ ((.inr ("least" : Str) : Key) = .inr ("most" : Str)) := fun z => ll_ne (Sum.inr.inj z)
  simp only [putK, List.any_cons, List.any_nil, Bool.or_false, decide_eq_false hn, Bool.false_eq_true, if_false]
  rfl
theorem flip_get (m : Bool) : valV flipK (.inr (wayS m)) = some (.str (wayS (!m))) := by
  have hn : ¬ ((.inr ("least" : Str) : Key) = .inr ("most" : Str)) := fun z => ll_ne (Sum.inr.inj z)
  cases m
  · exact valV_pos rfl
  · show valV flipK (.inr ("most" : Str)) = some (.str ("least" : Str))
    rw [valV_neg hn]
    exact valV_pos rfl
/-- {"least": "most", "most": "least"}[way] -/
theorem wpe_flip {m : Bool} (h : wpe K b ty E fun x => x = .str (wayS m) ∧ Φ (.str (wayS (!m)))) :
    wpe K b (tDGet (tDisp [((tC (.str ("least" : Str))), (tC (.str ("most" : Str)))), ((tC (.str ("most" : Str))), (tC (.str ("least" : Str))))]) ty) E Φ := fun H0 F H σ w e Q k => by
  intro p hp
  refine ⟨upd_same, flipK, rfl, by decide, ?_⟩
  rw [upd_upd, flip_merge]
  obtain ⟨w1, s1⟩ := w.newO (o := .dK flipK) hp
  refine h H0 F _ σ w1 (e.step s1) _ fun v F' H' x s' w' d q => ?_
  obtain ⟨rfl, q⟩ := q
  cases d
  refine ⟨p, .str (wayS (!m)), rfl, .inl ⟨flipK, .inr (wayS m), .inl (s'.keep p _ (w.nb hp) upd_same), rfl, (flip_get m).symm⟩, k _ F' H' _ (s1.trans s' w1) w' (.str _) q⟩
end
end DL

namespace DL
open PySem PySem.Spec PyProof.Rows L2
abbrev PP := (List Int × List Int) × (List Int × List Int)
def okPP (a : PP) : Prop := okQ a.1.1 a.1.2 ∧ okQ a.2.1 a.2.2 ∧ a.1.1.length = a.2.1.length ∧ a.1.2.length = a.2.2.length
def okH (p : List Int × List Int) (c : Nat) (g : List Int) : Prop := c < p.2.length ∧ p.2.length ≤ 100 ∧ p.1.length ≤ 100 ∧ g.length ≤ 100 ∧ ∀ s ∈ g, 0 ≤ s ∧ s < p.1.length
abbrev sp_groups_of_seats (K : PySem.W.Frag) (_ : Addr) : Sp := Sn K (fun n : Nat => [.int n]) (fun _ n => n ≤ 7) fun n x => x = (groups n).map fun g => g.map D.int
abbrev sp_decides (K : PySem.W.Frag) (C : Addr) : Sp := Sx K (fun a : (List Int × List Int) × Nat × List Int => [dC C a.1.1 a.1.2, .int a.2.1, dI a.2.2]) (fun _ a => okH a.1 a.2.1 a.2.2) fun a x => x = .bl (has a.1 a.2.1 a.2.2)
abbrev sp_difference (K : PySem.W.Frag) (C : Addr) : Sp := So K (fun a : PP => [dC C a.1.1 a.1.2, dC C a.2.1 a.2.2]) (fun _ a => okPP a) fun a o => o = dueOf a.1 a.2
def t_difference (K : PySem.W.Frag) (C : Addr) : TS :=
  (tSeq (tAsg (tCall (sp_groups_of_seats K C) [] E0 (tCons (tCB (GL.rLenI C (sp_C_len K C) E0) (tCons (tVar 0) tNil)) tNil)) (gName 2))
    (tSeq (tFor (iRng1 (tCons (tMeth C "width" (sp_C_width K C) [] E0 (tVar 0) tNil) tNil)) (gName 3)
    (tFor (iList K (tVar 2)) (gName 4)
    (tIfS (tTest (tOp (rNeD K) (tCall (sp_decides K C) [] E0 (tCons (tVar 0) (tCons (tVar 3) (tCons (tVar 4) tNil)))) (tCall (sp_decides K C) [] E0 (tCons (tVar 1) (tCons (tVar 3) (tCons (tVar 4) tNil))))))
    (tRet (tTup (tCons (tVar 3) (tCons (tVar 4) tNil))))
    tNext)))
    (tRet (tC .non))))
def t_groups_of_seats (K : PySem.W.Frag) (C : Addr) : TS :=
  (tRet (tCB (rSrt K) (tCons (tLc (iRng1 (tCons (tOp GL.rOneShl (tC (.int 1)) (tVar 0)) tNil)) (gName 1) tYes (tLc (iRng1 (tCons (tVar 0) tNil)) (gName 2) (tTruI K (tOp GL.rOdd (tOp GL.rShrN (tVar 1) (tVar 2)) (tC (.int 1)))) (tVar 2) [2]) [1]) tNil)))
def t_decides (K : PySem.W.Frag) (C : Addr) : TS :=
  (tSeq (tAsg (tMeth C "weights" (sp_C_weights K C) [] E0 (tVar 0) tNil) (gName 3))
    (tRet (tOp (rI0 fun i j => .bl (decide (j ≤ i))) (tCB (rSum K) (tCons (tLc (iList K (tVar 2)) (gName 4) tYes (tOp (rIx K) (tVar 3) (tVar 4)) [4]) tNil)) (tOp (rIx K) (tMeth C "quotas" (sp_C_quotas K C) [] E0 (tVar 0) tNil) (tVar 1)))))
section
variable {K : PySem.W.Frag} {C : Addr} {b : Bg} {P : Po}
theorem _root_.DL.EnvD.drop {H0 F H : Hp} {σ : L2.St} {E : Env'} {i : Nat} (e : EnvD K b H0 F H σ E) : EnvD K b H0 F H σ (E.set i .u) := by
  refine ⟨by rw [List.length_set]; exact e.len, fun j x h => ?_, fun j ds h => ?_, fun j k ds es r h1 h2 h3 h4 => ?_⟩
  · rcases set_get h with ⟨_, z⟩ | ⟨z, h⟩
    · cases z
    · exact e.dat j x h
  · rcases set_get h with ⟨_, z⟩ | ⟨z, h⟩
    · cases z
    · exact e.own j ds h
  · rcases set_get h1 with ⟨_, z⟩ | ⟨z1, h1⟩
    · cases z
    · rcases set_get h2 with ⟨_, z⟩ | ⟨z2, h2⟩
      · cases z
      · exact e.inj j k ds es r h1 h2 h3 h4
theorem eqBl (x y : Bool) : D.eq (.bl x) (.bl y) = (x == y) := by cases x <;> cases y <;> rfl
theorem okB (n : Nat) (x : Bool) : D.ok n (.bl x) = true := by cases n <;> rfl
theorem w_groups_of_seats {n : Nat} (h : n ≤ 7) : wpn K b (tCB (rSrt K) (tCons (tLc (iRng1 (tCons (tOp GL.rOneShl (tC (.int 1)) (tVar 0)) tNil)) (gName 1) tYes (tLc (iRng1 (tCons (tVar 0) tNil)) (gName 2) (tTruI K (tOp GL.rOdd (tOp GL.rShrN (tVar 1) (tVar 2)) (tC (.int 1)))) (tVar 2) [2]) [1]) tNil)) [.d (.int (n : Nat)), .u, .u] fun dss => dss = (groups n).map fun g => g.map D.int := by
  have hp : (2 ^ n : Nat) ≤ 128 := Nat.le_trans (Nat.pow_le_pow_right (by decide) h) (by decide)
  have hpi : ((2 : Int) ^ n) = ((2 ^ n : Nat) : Int) := by push_cast; rfl
  refine wpn_sorted 8 (by decide) (wpn_lc (wpi_rng1 (wpa_cons (wpe_op (wpe_int (wpe_var (by rfl) (rd_oneShl (by omega) ?_)))))))
  rw [hpi]
  refine wpa_nil ⟨((2 ^ n : Nat) : Int), rfl, Int.le_trans (by decide) (Int.natCast_nonneg _), Int.le_trans (Int.ofNat_le.mpr hp) (by decide), by rw [rangeD_len]; omega, fun i acc => acc = (List.range i).map fun m => (seatsM n m).map D.int, rfl, fun m d acc hd hl hI => ?_, fun acc hI => ?_⟩
  · obtain ⟨hm, rfl⟩ := rangeD_at hd
    subst hI
    refine wpg_name (by simp) ?_
    rw [Int.zero_add]
    refine wpt_yes (ifT (wpl_lc (wpi_rng1 (wpa_cons (wpe_var (by rfl) (wpa_nil ?_))))))
    refine ⟨(n : Int), rfl, by omega, by omega, by rw [rangeD_len]; omega, fun i acc => acc = (((List.range i).filter fun j => m.testBit j).map fun j => ((j : Nat) : Int)).map D.int, rfl, fun j d acc hd hl hI => ?_, fun acc hI => ?_⟩
    · obtain ⟨hj, rfl⟩ := rangeD_at hd
      subst hI
      refine wpg_name (by simp) ?_
      rw [Int.zero_add]
      refine wpt_truI (wpe_op (wpe_op (wpe_var (by rfl) (wpe_var (by rfl) (rd_shrN ?_)))))
      rw [show ((m : Nat) : Int) / 2 ^ j = ((m / 2 ^ j : Nat) : Int) by push_cast; rfl]
      refine wpe_int (rd_odd ⟨_, rfl, ?_⟩)
      have e : ((((m / 2 ^ j % 2 : Nat) : Int)) != 0) = m.testBit j := by
        rw [Nat.testBit_eq_decide_div_mod_eq]
        rcases Nat.mod_two_eq_zero_or_one (m / 2 ^ j) with z | z <;> rw [z] <;> rfl
      rw [e]
      refine ifB (fun z => wpe_var (by rfl) ?_) (fun z => ?_)
      · show _ = _
        rw [filt_snoc, z, if_pos rfl, List.map_append]; rfl
      · show _ = _
        rw [filt_snoc, z]; simp
    · subst hI
      rw [rangeD_len, List.range_succ, List.map_append, Int.toNat_natCast]; rfl
  · subst hI
    rw [rangeD_len, Int.toNat_natCast]
    have e : (List.range (2 ^ n)).map (fun m => (seatsM n m).map D.int) = (groupsM n).map fun g => g.map D.int := by unfold groupsM; rw [List.map_map]; rfl
    rw [e]
    have e2 : ((groupsM n).map fun g => g.map D.int).map D.lst = (groupsM n).map dI := by rw [List.map_map]; rfl
    rw [e2]
    exact ⟨okL _, allAlikeL _, sortableL _, sortL_dI _⟩
theorem gsum_sum {ws g : List Int} {acc : List D} (hl : acc.length = g.length) (hR : ∀ (j : Nat) y, acc[j]? = some y → ∃ s, g[j]? = some s ∧ y = .int (rget ws s)) : acc = (g.map fun s => rget ws s).map D.int := by
  refine list_of_get (by rw [hl]; simp) fun j y z => ?_
  obtain ⟨s, hs, rfl⟩ := hR j y z
  rw [List.getElem?_map, List.getElem?_map, hs]; rfl
theorem w_decides (c : CF K C) {p : List Int × List Int} {col : Nat} {g : List Int} (h : okH p col g) (k : P.rt (.bl (has p col g))) : wps K b (t_decides K C) [.d (dC C p.1 p.2), .d (.int (col : Nat)), .d (dI g), .u, .u] P := by
  obtain ⟨hc, h2, h1, hg, hs⟩ := h
  unfold t_decides
  refine wps_seq (wps_asg (wpe_l (wpl_methy (wpe_var (by rfl) ⟨_, _, rfl, no_weights, wpa_nil ⟨p, rfl, True.intro, fun es he => ?_⟩⟩))))
  subst he
  refine wps_ret (wpe_op (wpe_cb (wpa_cons (wpe_l (wpl_gen1 (R := fun j y => ∃ s, g[j]? = some s ∧ y = .int (rget p.1 s)) (wpi_list (wpe_var (by rfl) ⟨_, rfl, by rw [List.length_map]; omega, fun j d hd => ?_, fun acc hl hR => ?_⟩)))))))
  · obtain ⟨s, hs', rfl, hm⟩ := map_mem hd
    have := hs s hm
    exact wpe_op (wpe_var (by rfl) (wpe_var (by rfl) (rd_ixl (rget_at this.1 this.2) ⟨s, hs', rfl⟩)))
  · rw [List.length_map] at hl
    rw [gsum_sum hl hR]
    refine wpa_nil (rc_sum (wpe_op (wpe_l (wpl_methy (wpe_var (by rfl) ⟨_, _, rfl, no_quotas, wpa_nil ⟨p, rfl, True.intro, fun es he => ?_⟩⟩)))))
    subst he
    exact wpe_var (by rfl) (rd_ixl (rget_at (by omega) (by omega)) (rd_I0b k))
theorem okH_of {p : List Int × List Int} {n c : Nat} {g : List Int} (h : okQ p.1 p.2) (hn : p.1.length = n) (hc : c < p.2.length) (hg : g ∈ groups n) : okH p c g := by
  obtain ⟨m, rfl⟩ := groups_of hg
  obtain ⟨⟨h2, h7⟩, ⟨h1, h6⟩, _, _⟩ := h
  have := seatsM_length n m
  exact ⟨hc, by omega, by omega, by omega, fun s hs => by have := seatsM_lt hs; omega⟩
variable {vs : List V} {H : Hp} {Q : VK} {EE : XK}
theorem r_difference (cf : CF K C) (h : sp_difference K C vs H Q EE) : t_difference K C (De Q) (L2.start ["one", "other", "groups", "column", "seats"] vs) H := by
  obtain ⟨b, F, a, w, d, hp, k⟩ := h
  have e := envD_start (N := ["one", "other", "groups", "column", "seats"]) (H0 := H) (H := H) d
  obtain ⟨p, q⟩ := a
  obtain ⟨hp1, hq1, hl, hw⟩ := hp
  have hp' : okQ p.1 p.2 := hp1
  have hq' : okQ q.1 q.2 := hq1
  have hl' : p.1.length = q.1.length := hl
  have hw' : p.2.length = q.2.length := hw
  clear hp1 hq1 hl hw
  obtain ⟨⟨h2, h7⟩, ⟨h1, h6⟩, _, _⟩ := id hp'
  have hgl := groups_len p.1.length
  generalize L2.start ["one", "other", "groups", "column", "seats"] vs = σ0 at e ⊢
  have e0 : EnvD K b H F H σ0 [.d (dC C p.1 p.2), .d (dC C q.1 q.2), .u, .u, .u] := e
  clear e
  have T : wpn K b (tCall (sp_groups_of_seats K C) [] E0 (tCons (tCB (GL.rLenI C (sp_C_len K C) E0) (tCons (tVar 0) tNil)) tNil)) [.d (dC C p.1 p.2), .d (dC C q.1 q.2), .u, .u, .u] fun dss => dss = (groups p.1.length).map fun g => g.map D.int := by
    refine wpn_call (wpa_cons (wpe_cb (wpa_cons (wpe_var (by rfl) (wpa_nil (rc_lenI ⟨p, rfl, True.intro, fun z hz => ?_⟩))))))
    subst hz
    exact ⟨_, rfl, by omega, wpa_nil ⟨p.1.length, rfl, h7, fun x hx => hx⟩⟩
  unfold t_difference
  refine T H F H σ0 w e0 _ fun pA as F1 H1 dss s1 w1 n1 n2 N hd => ?_
  subst hd
  have e1 : EnvD K b H F1 H1 (σ0.set 2 (some (.ref pA))) [.d (dC C p.1 p.2), .d (dC C q.1 q.2), .u, .u, .u] := (e0.step s1).setV (i := 2)
  have hs1 : (σ0.set 2 (some (.ref pA)))[2]? = some (some (.ref pA)) := List.getElem?_set_self (by rw [e0.len]; show 2 < 5; decide)
  have R : wpi K b (iRng1 (tCons (tMeth C "width" (sp_C_width K C) [] E0 (tVar 0) tNil) tNil)) [.d (dC C p.1 p.2), .d (dC C q.1 q.2), .u, .u, .u] fun ds => ds = rangeD 0 p.2.length := by
    refine wpi_rng1 (wpa_cons (wpe_methx (wpe_var (by rfl) ⟨_, _, rfl, no_width, wpa_nil ⟨p, rfl, True.intro, fun y hy => ?_⟩⟩)))
    subst hy
    exact wpa_nil ⟨(p.2.length : Int), rfl, by omega, by omega, by rw [Int.toNat_natCast]⟩
  rw [gName]
  dsimp only
  rw [tSeq]
  refine R H F1 H1 _ w1 e1 _ fun J F2 H2 ds s2 w2 it hds => ?_
  subst hds
  have N2 := N.step s2
  have hlen : (rangeD 0 p.2.length).length = p.2.length := rangeD_len ..
  refine ⟨fun i m σ Hc => m = p.2.length - i ∧ i ≤ p.2.length ∧ ∃ Fc, Step b F2 H2 Fc Hc ∧ Wd K b Fc Hc ∧ EnvD K b H Fc Hc σ [.d (dC C p.1 p.2), .d (dC C q.1 q.2), .u, .u, .u] ∧ σ[2]? = some (some (.ref pA)) ∧ (List.range i).findSome? (due1 p q) = none,
    ⟨p.2.length, rfl, Nat.zero_le _, F2, .refl, w2, e1.step s2, hs1, rfl⟩, ?_⟩
  rintro c m σ Hc ⟨rfl, hc, Fc, sc, wc, ec, hsc, hno⟩
  by_cases hlt : c < p.2.length
  · refine .inr ⟨it.go c Fc Hc sc.ex wc (by rw [hlen]; exact hlt), fun σ' H' => ∃ F', Step b F2 H2 F' H' ∧ Wd K b F' H' ∧ EnvD K b H F' H' σ' [.d (dC C p.1 p.2), .d (dC C q.1 q.2), .u, .u, .u] ∧ σ'[2]? = some (some (.ref pA)) ∧ (List.range (c + 1)).findSome? (due1 p q) = none, fun σ' H' n => ⟨p.2.length - (c + 1), by omega, rfl, hlt, n⟩, fun x H3 hy => ?_⟩
    obtain ⟨F3, d3, s3, w3, hd3, hv3⟩ := it.yld c Fc Hc x H3 sc.ex wc (by rw [hlen]; exact hlt) hy
    obtain ⟨_, rfl⟩ := rangeD_at hd3
    rw [Int.zero_add] at hv3
    have e3 : EnvD K b H F3 H3 (σ.set 3 (some x)) [.d (dC C p.1 p.2), .d (dC C q.1 q.2), .u, .d (.int (c : Nat)), .u] := (ec.step s3).setD (i := 3) hv3
    have hs3 : (σ.set 3 (some x))[2]? = some (some (.ref pA)) := by rw [List.getElem?_set_ne (by decide)]; exact hsc
    have s23 := sc.trans s3 wc
    have N3 := N2.step s23
    show tFor _ _ _ _ (σ.set 3 (some x)) H3
    generalize σ.set 3 (some x) = σ3 at e3 hs3
    refine ⟨.ref pA, hs3, pA, rfl, ⟨_, SqL.of N3.hp⟩, fun j m σ Hc => m = (groups p.1.length).length - j ∧ j ≤ (groups p.1.length).length ∧ ∃ Fc, Step b F2 H2 Fc Hc ∧ Wd K b Fc Hc ∧ EnvD K b H Fc Hc σ [.d (dC C p.1 p.2), .d (dC C q.1 q.2), .u, .d (.int (c : Nat)), .u] ∧ σ[2]? = some (some (.ref pA)) ∧ ((groups p.1.length).take j).find? (fun g => has p c g != has q c g) = none,
      ⟨_, rfl, Nat.zero_le _, F3, s23, w3, e3, hs3, rfl⟩, ?_⟩
    rintro j m σ4 H4 ⟨rfl, hj, F4, s4, w4, e4, hs4, hnj⟩
    have N4 := N2.step s4
    have hal : as.length = (groups p.1.length).length := by rw [N4.len, List.length_map]
    by_cases hjl : j < (groups p.1.length).length
    · have hja : as[j]? = some as[j] := List.getElem?_eq_getElem (by omega)
      have hjg : (groups p.1.length)[j]? = some (groups p.1.length)[j] := List.getElem?_eq_getElem hjl
      generalize as[j] = qj at hja
      generalize (groups p.1.length)[j] = g at hjg
      have hgm := List.mem_of_getElem? hjg
      have hxj : (as.map V.ref)[j]? = some (.ref qj) := by rw [List.getElem?_map, hja]; rfl
      refine .inr ⟨⟨_, .ref qj, SqL.of N4.hp, hxj⟩, fun σ' H' => ∃ F', Step b F2 H2 F' H' ∧ Wd K b F' H' ∧ EnvD K b H F' H' σ' [.d (dC C p.1 p.2), .d (dC C q.1 q.2), .u, .d (.int (c : Nat)), .u] ∧ σ'[2]? = some (some (.ref pA)) ∧ ((groups p.1.length).take (j + 1)).find? (fun g => has p c g != has q c g) = none, fun σ' H' n => ⟨(groups p.1.length).length - (j + 1), by omega, rfl, hjl, n⟩, fun x5 H5 hy5 => ?_⟩
      obtain ⟨rfl, hy5⟩ := hy5
      have ex5 := hy5 _ (SqL.of N4.hp)
      rw [hxj] at ex5
      cases ex5
      have e5 : EnvD K b H F4 H5 (σ4.set 4 (some (.ref qj))) [.d (dC C p.1 p.2), .d (dC C q.1 q.2), .u, .d (.int (c : Nat)), .u] := e4.setV (i := 4)
      have h54 : (σ4.set 4 (some (.ref qj)))[4]? = some (some (.ref qj)) := List.getElem?_set_self (by rw [e4.len]; show 4 < 5; decide)
      have h52 : (σ4.set 4 (some (.ref qj)))[2]? = some (some (.ref pA)) := by rw [List.getElem?_set_ne (by decide)]; exact hs4
      obtain ⟨v3, h53, d53⟩ := e5.dat 3 (.int (c : Nat)) rfl
      cases d53
      show tIfS _ _ _ _ (σ4.set 4 (some (.ref qj))) H5
      generalize σ4.set 4 (some (.ref qj)) = σ5 at e5 h54 h52 h53
      obtain ⟨a1, a2, vs', a3, a4⟩ := N4.it j qj (g.map D.int) hja (by rw [List.getElem?_map, hjg]; rfl)
      have ea := a4.ints
      subst ea
      obtain ⟨G, wG, eG, back⟩ := lendS (S := fun a => a ∈ as) (i := 4) (v := .ref qj) (d := dI g) w4 e5 (ho_of (by rfl)) (fun a z => by obtain ⟨_, _, _, _, h, _⟩ := N4.mem z; exact h) (fun a z => by obtain ⟨_, _, _, _, _, h, _⟩ := N4.mem z; exact h) h54
        fun G x y => .lst (by rw [y qj (List.mem_of_getElem? hja)]; exact a3) (DvA.of_ints g)
      have TT : wpt K b (tTest (tOp (rNeD K) (tCall (sp_decides K C) [] E0 (tCons (tVar 0) (tCons (tVar 3) (tCons (tVar 4) tNil)))) (tCall (sp_decides K C) [] E0 (tCons (tVar 1) (tCons (tVar 3) (tCons (tVar 4) tNil)))))) [.d (dC C p.1 p.2), .d (dC C q.1 q.2), .u, .d (.int (c : Nat)), .d (dI g)] fun r => r = (has p c g != has q c g) := by
        refine wpt_test (wpe_op (wpe_callx (wpa_cons (wpe_var (by rfl) (wpa_cons (wpe_var (by rfl) (wpa_cons (wpe_var (by rfl) (wpa_nil ⟨(p, c, g), rfl, okH_of hp' rfl hlt hgm, fun x hx => ?_⟩)))))))))
        subst hx
        refine wpe_callx (wpa_cons (wpe_var (by rfl) (wpa_cons (wpe_var (by rfl) (wpa_cons (wpe_var (by rfl) (wpa_nil ⟨(q, c, g), rfl, okH_of hq' hl'.symm (show c < q.2.length by omega) hgm, fun x hx => ?_⟩)))))))
        subst hx
        refine rd_neD 9 (by decide) (okB _ _) (okB _ _) ⟨_, rfl, ?_⟩
        rw [eqBl]; rfl
      refine TT H G H5 σ5 wG eG _ fun r G' H' s' w' hr => ?_
      obtain ⟨F6, s6, w6⟩ := back G' H' s' w'
      have N6 := N4.step s6
      cases hh : (has p c g != has q c g) with
      | true =>
        rw [hh] at hr
        subst hr
        refine (if_pos rfl : (if true = true then _ else _) = _).symm ▸ ?_
        have d1 : due1 p q c = some (((c : Nat) : Int), g) := by
          unfold due1
          rw [find_at hnj hjg hh]; rfl
        have d2 : dueOf p q = some (((c : Nat) : Int), g) := some_at hno d1 hlt
        refine ⟨.int (c : Nat), h53, .ref qj, h54, len_le rfl, fun t ht => ?_⟩
        have st : Step b F H F6 H' := ((s1.trans s2 w1).trans s4 w2).trans s6 w4
        obtain ⟨w7, s7⟩ := w6.newO (o := .tup [.int (c : Nat), .ref qj]) ht
        obtain ⟨c1, c2, vs7, c3, c4⟩ := N6.it j qj (g.map D.int) hja (by rw [List.getElem?_map, hjg]; rfl)
        have ec := c4.ints
        subst ec
        refine k (.ref t) F6 _ (some (((c : Nat) : Int), g)) (st.trans s7 w6) w7 ⟨t, qj, rfl, ⟨w6.outN ht, st.fresh w6 ht, w6.nb ht, upd_same⟩, c1, n2 qj (List.mem_of_getElem? hja), c2, ?_⟩ d2.symm
        rw [upd_ne (fun z => by rw [← z, c3] at ht; cases ht)]
        exact c3
      | false =>
        rw [hh] at hr
        subst hr
        refine (if_neg Bool.false_ne_true : (if false = true then _ else _) = _).symm ▸ ?_
        exact ⟨F6, s4.trans s6 w4, w6, e5.step s6, h52, find_no hnj hjg hh⟩
    · have hj' : j = (groups p.1.length).length := by omega
      subst hj'
      rw [List.take_length] at hnj
      refine .inl ⟨⟨_, SqL.of N4.hp, by rw [List.length_map]; omega⟩, F4, s4, w4, e4.drop (i := 3), hs4, none_at hno ?_⟩
      unfold due1
      rw [hnj]; rfl
  · have hc' : c = p.2.length := by omega
    subst hc'
    refine .inl ⟨it.stop _ Fc Hc sc.ex wc (by rw [hlen]; exact Nat.le_refl _), ?_⟩
    exact k .non Fc Hc none ((s1.trans s2 w1).trans sc w2) wc rfl hno.symm
theorem due_in {p q : List Int × List Int} {c : Int} {g : List Int} (h : dueOf p q = some (c, g)) : ∃ n : Nat, n < p.2.length ∧ c = n ∧ g ∈ groups p.1.length ∧ (has p n g != has q n g) = true := by
  obtain ⟨n, hn, e⟩ := List.exists_of_findSome?_eq_some h
  unfold due1 at e
  obtain ⟨g', e1, e2⟩ := Option.map_eq_some_iff.mp e
  cases e2
  exact ⟨n, List.mem_range.mp hn, rfl, List.mem_of_find?_eq_some e1, List.find?_some (p := fun g => has p n g != has q n g) e1⟩
theorem due_no {p q : List Int × List Int} (h : dueOf p q = none) {c : Nat} (hc : c < p.2.length) {g : List Int} (hg : g ∈ groups p.1.length) : has p c g = has q c g := by
  have e := List.findSome?_eq_none_iff.mp h c (List.mem_range.mpr hc)
  unfold due1 at e
  have e2 := List.find?_eq_none.mp (Option.map_eq_none_iff.mp e) g hg
  simpa using e2
theorem rget_pos {qs : List Int} {s : Int} (h : ∀ q ∈ qs, 1 ≤ q ∧ q ≤ s) {c : Nat} (hc : c < qs.length) : 1 ≤ rget qs (c : Nat) := by
  have e : rget qs (c : Nat) = qs[c] := by unfold rget; rw [Int.toNat_natCast, List.getD, List.getElem?_eq_getElem hc]; rfl
  rw [e]
  exact (h _ (List.getElem_mem hc)).1
theorem row_ext {r s : List Int} (hl : r.length = s.length) (h : ∀ c : Nat, c < r.length → rget r (c : Nat) = rget s (c : Nat)) : r = s := by
  refine List.ext_getElem hl fun c h1 h2 => ?_
  have := h c h1
  unfold rget at this
  rw [Int.toNat_natCast, List.getD, List.getD, List.getElem?_eq_getElem h1, List.getElem?_eq_getElem h2] at this
  exact this
theorem ln_groups_of_seats (h : sp_groups_of_seats K C vs H Q EE) : vs.length = 1 := ln_n h fun _ => rfl
theorem ln_decides (h : sp_decides K C vs H Q EE) : vs.length = 3 := ln_x h fun _ => rfl
theorem ln_difference (h : sp_difference K C vs H Q EE) : vs.length = 2 := ln_o h fun _ => rfl
theorem r_groups_of_seats (cf : CF K C) (h : sp_groups_of_seats K C vs H Q EE) : t_groups_of_seats K C (De Q) (L2.start ["many", "mask", "seat"] vs) H := by
  obtain ⟨b, F, a, w, d, hp, k⟩ := h
  unfold t_groups_of_seats
  exact w_groups_of_seats hp H F H _ w (envD_start (N := ["many", "mask", "seat"]) (H0 := H) d) _ fun p qs F' H' dss s w' n1 n2 N q => k p qs F' H' dss s w' n1 n2 N q
theorem r_decides (cf : CF K C) (h : sp_decides K C vs H Q EE) : t_decides K C (De Q) (L2.start ["council", "column", "seats", "weights", "seat"] vs) H := r_x2 (N := ["council", "column", "seats", "weights", "seat"]) h (fun b a hp => w_decides cf hp rfl)
end
end DL

namespace DL
open PySem PySem.Spec PyProof.Rows L2
abbrev sp_law_settle (K : PySem.W.Frag) (_ : Addr) : Sp := Sx K (fun a : (List Int × List Int) × List (List Int) => [dPt a.1, dRs a.2]) (fun _ a => okQ a.1.1 a.1.2 ∧ okR a.1.1.length a.1.2.length a.2) fun a x => ∃ r, x = encR r ∧ isMade a.1.1 a.1.2 a.2 r
abbrev sp_law_rooms (K : PySem.W.Frag) (_ : Addr) : Sp := Sx K (fun a : (List Int × List Int) × List Sd2 => [dPt a.1, dS a.2]) (fun _ a => okSd a.1.2 a.2) fun a x => x = dI (allows a.1.1 a.1.2 a.2)
abbrev sp_law_sides (K : PySem.W.Frag) (_ : Addr) : Sp := Sx K (fun a : Nat × Nat => [.bag, .int a.1, .int a.2]) (fun b a => b.isSome = true ∧ 1 ≤ a.1 ∧ a.1 ≤ 6 ∧ a.2 ≤ 12) fun a x => ∃ ss, x = dS ss ∧ ss.length ≤ a.2 ∧ ss.Nodup ∧ ∀ s ∈ ss, 0 ≤ s.1 ∧ s.1 < a.1
def t_law_settle (K : PySem.W.Frag) (C : Addr) : TS :=
  (tSeq (tAsg (tVar 0) (gTup K 2 (gCons (gName 2) (gCons (gName 3) gNil))))
    (tSeq (tAsg (tLst tNil) (gName 4))
    (tSeq (tFor (iRng1 (tCons (tCB (DL.rLen K) (tCons (tVar 3) tNil)) tNil)) (gName 5)
    (tSeq (tAsg (tTup (tCons (tC (.int 0)) (tCons (tC .non) tNil))) (gTup K 2 (gCons (gName 6) (gCons (gName 7) gNil))))
    (tSeq (tFor (iList K (tCB (rSrt K) (tCons (tLc (iRng1 (tCons (tCB (DL.rLen K) (tCons (tVar 2) tNil)) tNil)) (gName 10) tYes (tTup (tCons (tOp (rIx K) (tOp (rIx K) (tVar 1) (tVar 10)) (tVar 5)) (tCons (tOp (rIx K) (tVar 2) (tVar 10)) tNil))) [10]) tNil))) (gTup K 2 (gCons (gName 8) (gCons (gName 9) gNil)))
    (tSeq (tIfS (tTest (tOp (rI0 fun i j => .bl (decide (i < j))) (tVar 6) (tOp (rIx K) (tVar 3) (tVar 5))))
    (tAsg (tVar 8) (gName 7))
    tNext)
    (tAug 6 (tVar 9) (ipI fun i j => i + j))))
    (tDrop (tBM K "list" rAppend (tVar 4) (tCons (tVar 7) tNil))))))
    (tRet (tCB (rTuple K) (tCons (tVar 4) tNil))))))
def t_law_rooms (K : PySem.W.Frag) (C : Addr) : TS :=
  (tSeq (tAsg (tVar 0) (gTup K 2 (gCons (gName 2) (gCons (gName 3) gNil))))
    (tRet (tLc (iList K (tVar 1)) (gName 4) tYes (tOp (rIx K) (tLst (tCons (tOp (rI0 fun i j => .int (i - j)) (tCB (rSum K) (tCons (tVar 2) tNil)) (tOp (rIx K) (tVar 3) (tOp (rIx K) (tVar 4) (tC (.int 0))))) (tCons (tOp (rI0 fun i j => .int (i - j)) (tOp (rIx K) (tVar 3) (tOp (rIx K) (tVar 4) (tC (.int 0)))) (tC (.int 1))) tNil))) (tCB rInt1 (tCons (tOp (rEqD K) (tOp (rIx K) (tVar 4) (tC (.int 1))) (tC (.str ("least" : Str)))) tNil))) [4])))
def t_law_sides (K : PySem.W.Frag) (C : Addr) : TS :=
  (tSeq (tAsg (tLst tNil) (gName 3))
    (tSeq (tFor (iRng1 (tCons (tCall (sp_law_take K C) [] E0 (tCons (tVar 0) (tCons (tOp (rI0 fun i j => .int (i + j)) (tVar 2) (tC (.int 1))) tNil))) tNil)) (gName 4)
    (tSeq (tAsg (tTup (tCons (tCall (sp_law_take K C) [] E0 (tCons (tVar 0) (tCons (tVar 1) tNil))) (tCons (tOp (rIx K) (tLst (tCons (tC (.str ("least" : Str))) (tCons (tC (.str ("most" : Str))) tNil))) (tCall (sp_law_take K C) [] E0 (tCons (tVar 0) (tCons (tC (.int 2)) tNil)))) tNil))) (gName 5))
    (tIfS (tTest (tOp (rNotInD K) (tVar 5) (tVar 3)))
    (tDrop (tBM K "list" rInsert (tVar 3) (tCons (tCall (sp_law_take K C) [] E0 (tCons (tVar 0) (tCons (tOp (rI0 fun i j => .int (i + j)) (tCB (DL.rLen K) (tCons (tVar 3) tNil)) (tC (.int 1))) tNil))) (tCons (tVar 5) tNil))))
    tNext)))
    (tRet (tVar 3))))
theorem pow9 : (10 : Int) ^ (9 : Int).toNat = 1000000000 := by decide +kernel
theorem rget_in {r : List Int} {c : Nat} (h : c < r.length) : rget r (c : Nat) = r[c] := by unfold rget; rw [Int.toNat_natCast, List.getD, List.getElem?_eq_getElem h]; rfl
theorem rget_some {r : List Int} {c : Nat} (h : c < r.length) : r[c]? = some (rget r (c : Nat)) := by rw [rget_in h, List.getElem?_eq_getElem h]
theorem rget_nn {ws : List Int} (hw : ∀ x ∈ ws, 0 ≤ x) (j : Nat) : 0 ≤ rget ws (j : Nat) := by
  by_cases h : j < ws.length
  · rw [rget_in h]; exact hw _ (List.getElem_mem _)
  · unfold rget; rw [Int.toNat_natCast, List.getD, List.getElem?_eq_none (by omega)]; exact Int.le_refl _
theorem wsumN_mono {ws : List Int} (hw : ∀ x ∈ ws, 0 ≤ x) {g h : Nat} : ∀ {n : Nat}, (∀ j, j < n → g.testBit j = true → h.testBit j = true) → wsumN ws n g ≤ wsumN ws n h
  | 0, _ => Int.le_refl _
  | n + 1, z => by
    have ih := wsumN_mono hw (n := n) fun j hj => z j (by omega)
    have hn := rget_nn hw n
    rw [wsumN_succ, wsumN_succ]
    cases hg : g.testBit n with
    | false =>
      rw [if_neg Bool.false_ne_true]
      cases h.testBit n with
      | false => rw [if_neg Bool.false_ne_true]; omega
      | true => rw [if_pos rfl]; omega
    | true => rw [z n (by omega) hg, if_pos rfl]; omega
theorem allows_get {ws qs : List Int} {ss : List Sd2} {i : Nat} {s : Sd2} (h : ss[i]? = some s) : rget (allows ws qs ss) (i : Nat) = allow ws qs s.1 s.2 := by
  unfold rget allows
  rw [Int.toNat_natCast, List.getD, List.getElem?_map, h]; rfl
theorem dS_ok (n : Nat) (ss : List Sd2) : D.ok (n + 2) (dS ss) = true := by
  unfold dS D.ok
  refine okA_of fun d hd => ?_
  obtain ⟨q, _, rfl⟩ := List.mem_map.mp hd
  simp only [encS, D.ok, D.okA, wayS_ok, Bool.and_true, Bool.true_and]
theorem encS_ok (n : Nat) (s : Sd2) : D.ok (n + 1) (encS s) = true := by
  simp only [encS, D.ok, D.okA, wayS_ok, Bool.and_true, Bool.true_and]
theorem dS_nil (ss : List Sd2) : D.eq (dS ss) (.lst []) = ss.isEmpty := by cases ss <;> rfl
section
variable {K : PySem.W.Frag} {C : Addr} {b : Bg} {P : Po}
theorem leDP (p q : Int × Int) : leD (dP p) (dP q) = PySem.W.dataLe false encP p q := rfl
theorem sortP_map (l : List (Int × Int)) : (l.map dP).mergeSort leD = (srtP l).map dP :=
  (PySem.W.sort_maps (r := PySem.W.dataLe false encP) (s := leD) dP (fun _ _ _ _ => rfl)).symm
theorem w_law_settle {p : List Int × List Int} {rs : List (List Int)} (h : okQ p.1 p.2) (hr : okR p.1.length p.2.length rs) (k : ∀ r, isMade p.1 p.2 rs r → P.rt (encR r)) : wps K b (t_law_settle K C) [.d (dPt p), .d (dRs rs), .u, .u, .u, .u, .u, .u, .u, .u, .u] P := by
  obtain ⟨ws, qs⟩ := p
  obtain ⟨⟨hw2, hw7⟩, ⟨hq1, hq6⟩, hws, hqs⟩ := h
  unfold t_law_settle
  have hw7' : ws.length ≤ 7 := hw7
  have e1 : ((ws, qs) : List Int × List Int).1.length = ws.length := rfl
  have e2 : ((ws, qs) : List Int × List Int).2.length = qs.length := rfl
  have hq6' : qs.length ≤ 6 := hq6
  have hrl : rs.length = ws.length := hr.1
  refine wps_seq (wps_asgt [2, 3] (wpe_var (by rfl) (wpg_tup (by rfl) (wpgs_cons (wpg_name (by simp) (wpgs_cons (wpg_name (by simp) (wpgs_nil ?_)))))))) 
  refine wps_seq (wps_asgl (wpl_lst (wpa_nil ⟨by decide, ?_⟩)))
  refine wps_seq (wps_for [5] (wpi_rng1 (wpa_cons (wpe_cb (wpa_cons (wpe_var (by rfl) (wpa_nil (rc_lenL ?_))))))))
  refine wpa_nil ⟨_, rfl, by rw [List.length_map]; omega, by rw [List.length_map]; omega, fun i E => ∃ ms : List Int, ms.length = i ∧ (∀ (c : Nat) q m, qs[c]? = some q → ms[c]? = some m → isLeast (rs.map fun r => rget r c) ws q m) ∧ ∃ a5 a6 a7 a8 a9, E = [.d (dPt (ws, qs)), .d (dRs rs), .d (dI ws), .d (dI qs), .o (ms.map D.int), a5, a6, a7, a8, a9, .u],
    ⟨[], rfl, fun c q m _ z => by simp at z, _, _, _, _, _, rfl⟩, fun i d E hd hI => ?_, fun E hI => ?_⟩
  · obtain ⟨ms, hml, hm, a5, a6, a7, a8, a9, rfl⟩ := hI
    obtain ⟨hi, rfl⟩ := rangeD_at hd
    rw [List.length_map] at hi
    have hi' : i < qs.length := by omega
    have hqi : qs[i]? = some qs[i] := List.getElem?_eq_getElem hi'
    generalize hq : qs[i] = q at hqi
    have hq' : 1 ≤ q ∧ q ≤ ws.sum := by rw [← hq]; exact hqs _ (List.getElem_mem _)
    refine wpg_name (by simp) ?_
    rw [Int.zero_add]
    refine wps_seq (wps_asgt [6, 7] (wpe_tup (wpa_cons (wpe_int (wpa_cons (wpe_non (wpa_nil ⟨len_le rfl, wpg_tup (by rfl) (wpgs_cons (wpg_name (by simp) (wpgs_cons (wpg_name (by simp) (wpgs_nil ?_)))))⟩)))))))
    obtain ⟨es, hes⟩ : ∃ es, (rs.map fun r => rget r (i : Nat)) = es := ⟨_, rfl⟩
    have hel : es.length = ws.length := by rw [← hes, List.length_map, hrl]
    refine wps_seq (wps_for [8, 9] (wpi_list (wpe_l (wpl_cb (wpa_cons (wpe_l (wpl_gen1 (R := fun j y => ∃ p, (es.zip ws)[j]? = some p ∧ y = dP p) (wpi_rng1 (wpa_cons (wpe_cb (wpa_cons (wpe_var (by rfl) (wpa_nil (rc_lenL ?_)))))))))))))) 
    rw [List.length_map]
    refine wpa_nil ⟨_, rfl, by omega, by omega, by rw [rangeD_len]; omega, fun j d hd => ?_, fun acc hl hR => ?_⟩
    · obtain ⟨hn, rfl⟩ := rangeD_at hd
      have hn' : j < ws.length := by omega
      have hnr : j < rs.length := by omega
      have er : (rs.map encR)[j]? = some (encR rs[j]) := by rw [List.getElem?_map, List.getElem?_eq_getElem hnr]; rfl
      have ew : (ws.map D.int)[j]? = some (.int ws[j]) := by rw [List.getElem?_map, List.getElem?_eq_getElem hn']; rfl
      have hrn := (hr.2 rs[j] (List.getElem_mem _)).1
      have ez : (es.zip ws)[j]? = some (rget rs[j] (i : Nat), ws[j]) := by
        rw [List.getElem?_zip_eq_some]
        exact ⟨by rw [← hes, List.getElem?_map, List.getElem?_eq_getElem hnr]; rfl, List.getElem?_eq_getElem hn'⟩
      rw [Int.zero_add]
      refine wpe_tup (wpa_cons (wpe_op (wpe_op (wpe_var (by rfl) (wpe_var (by rfl) (rd_ixl (d := encR rs[j]) (atI_of er) (wpe_var (by rfl) (rd_ixt (rget_at (c := (i : Int)) (by omega) (by rw [hrn]; show (i : Int) < qs.length; omega)) ?_)))))))) 
      exact wpa_cons (wpe_op (wpe_var (by rfl) (wpe_var (by rfl) (rd_ixl (d := .int ws[j]) (atI_of ew) (wpa_nil ⟨len_le rfl, _, ez, rfl⟩)))))
    have hacc : acc = (es.zip ws).map dP := by
      rw [rangeD_len] at hl
      refine list_of_get (by rw [hl, List.length_map, List.length_zip]; omega) fun j y z => ?_
      obtain ⟨r, e1, rfl⟩ := hR j y z
      rw [List.getElem?_map, e1]; rfl
    subst hacc
    have hp := srtP_perm (es.zip ws)
    have hs : ((srtP (es.zip ws)).map (·.2)).sum = ws.sum := by rw [sum_perm (hp.map _), zip_sum hel]
    have pw := srtP_pw (es.zip ws)
    have smap := sortP_map (es.zip ws)
    obtain ⟨zs, hzs⟩ : ∃ zs, srtP (es.zip ws) = zs := ⟨_, rfl⟩
    rw [hzs] at hp hs pw smap
    refine wpa_nil (rcl_sorted 8 (by decide) (okA_of fun d hd => ?_) ?_ ?_ ?_)
    · obtain ⟨p, _, rfl⟩ := List.mem_map.mp hd
      rfl
    · rw [List.map_map]
      exact PySem.W.AllAlike.of (enc := D.py ∘ dP) fun p q => by simp [dP, D.py, D.pyA, PySem.W.alike, PySem.W.alikeAll]
    · rw [List.map_map]
      exact PySem.W.Sortable.tuples (enc := D.py ∘ dP) fun q => ⟨.int q.1, [.int q.2], by simp [dP, D.py, D.pyA]⟩
    rw [smap]
    have hzm : ∀ x ∈ zs, 0 ≤ x.2 := fun x hx => by
      have := hws _ (List.of_mem_zip (hp.mem_iff.mp hx)).2
      omega
    have eqi' : (qs.map D.int)[i]? = some (.int q) := by rw [List.getElem?_map, hqi]; rfl
    refine ⟨_, rfl, fun j E => ∃ a7 a8 a9, E = [.d (dPt (ws, qs)), .d (dRs rs), .d (dI ws), .d (dI qs), .o (ms.map D.int), .d (.int (i : Nat)), .d (.int ((zs.take j).map (·.2)).sum), a7, a8, a9, .u] ∧
      (((zs.take j).map (·.2)).sum < q ∨ ∃ n x, zs[n]? = some x ∧ ((zs.take n).map (·.2)).sum < q ∧ q ≤ ((zs.take n).map (·.2)).sum + x.2 ∧ q ≤ ((zs.take j).map (·.2)).sum ∧ a7 = .d (.int x.1)), ⟨.d .non, _, _, rfl, .inl (by show (0 : Int) < q; omega)⟩, fun j d E hd hI => ?_, fun E hI => ?_⟩
    · obtain ⟨a7, a8, a9, rfl, hI⟩ := hI
      obtain ⟨x, hx, rfl, hxm⟩ := map_mem hd
      have hx0 := hzm x hxm
      have e1 : ((zs.take (j + 1)).map (·.2)).sum = ((zs.take j).map (·.2)).sum + x.2 := by rw [take_succ' hx, List.map_append, List.sum_append]; simp
      refine wpg_tup (by rfl) (wpgs_cons (wpg_name (by simp) (wpgs_cons (wpg_name (by simp) (wpgs_nil ?_)))))
      refine wps_seq (wps_if (wpt_test (wpe_op (wpe_var (by rfl) (wpe_op (wpe_var (by rfl) (wpe_var (by rfl) (rd_ixl (atI_of eqi') (rd_I0b ⟨_, rfl, ?_⟩)))))))))
      rcases hI with hlt | ⟨n, y, n1, n2, n3, n4, rfl⟩
      · rw [decide_eq_true hlt]
        refine ifT (wps_asg (wpe_var (by rfl) (wps_augI (by rfl) (wpe_var (by rfl) ⟨_, rfl, ?_⟩))))
        refine ⟨.d (.int x.1), .d (.int x.1), .d (.int x.2), by rw [e1]; rfl, ?_⟩
        by_cases hq2 : ((zs.take (j + 1)).map (·.2)).sum < q
        · exact .inl hq2
        · exact .inr ⟨j, x, hx, hlt, by omega, by omega, rfl⟩
      · rw [decide_eq_false (by omega)]
        refine ifF (wps_next (wps_augI (by rfl) (wpe_var (by rfl) ⟨_, rfl, ?_⟩)))
        exact ⟨.d (.int y.1), .d (.int x.1), .d (.int x.2), by rw [e1]; rfl, .inr ⟨n, y, n1, n2, n3, by omega, rfl⟩⟩
    · obtain ⟨a7, a8, a9, rfl, hI⟩ := hI
      rw [List.length_map, List.take_length] at hI ⊢
      rcases hI with hlt | ⟨n, x, n1, n2, n3, n4, rfl⟩
      · rw [hs] at hlt; omega
      · have hn : n < zs.length := (List.getElem?_eq_some_iff.mp n1).1
        have hz : zs = zs.take n ++ x :: zs.drop (n + 1) := by
          obtain ⟨h, rfl⟩ := List.getElem?_eq_some_iff.mp n1
          rw [List.getElem_cons_drop, List.take_append_drop]
        have hlm : isLeast es ws q x.1 := by
          rw [hz] at hp pw
          exact isLeast_of hel hp pw (fun w hw' => by have := hws w hw'; omega) n2 n3
        refine wps_append (by rfl) (wpe_var (by rfl) ⟨by rw [List.length_map]; omega, ms ++ [x.1], by rw [List.length_append, hml]; rfl, fun c q' m' e1 e2 => ?_, .d (.int (i : Nat)), .d (.int (zs.map (·.2)).sum), .d (.int x.1), a8, a9, ?_⟩)
        · rcases get_snoc e2 with e2 | ⟨e3, rfl⟩
          · exact hm c q' m' e1 e2
          · rw [e3, hml] at e1 ⊢
            rw [hqi] at e1
            cases e1
            rw [hes]; exact hlm
        · rw [List.map_append]; rfl
  · obtain ⟨ms, hml, hm, a5, a6, a7, a8, a9, rfl⟩ := hI
    rw [rangeD_len, List.length_map] at hml
    refine wps_frz 4 (by rfl) (wps_ret (wpe_cb (wpa_cons (wpe_var (by rfl) (wpa_nil (rc_tupleL ?_))))))
    exact k ms ⟨by show ms.length = qs.length; omega, hm⟩
theorem w_law_rooms {p : List Int × List Int} {ss : List Sd2} (h : okSd p.2 ss) (k : P.rt (dI (allows p.1 p.2 ss))) : wps K b (t_law_rooms K C) [.d (dPt p), .d (dS ss), .u, .u, .u] P := by
  obtain ⟨ws, qs⟩ := p
  have hl := h.1
  unfold t_law_rooms
  refine wps_seq (wps_asgt [2, 3] (wpe_var (by rfl) (wpg_tup (by rfl) (wpgs_cons (wpg_name (by simp) (wpgs_cons (wpg_name (by simp) (wpgs_nil ?_)))))))) 
  refine wps_ret (wpe_l (wpl_gen1 (R := fun j y => ∃ s, ss[j]? = some s ∧ y = .int (allow ws qs s.1 s.2)) (wpi_list (wpe_var (by rfl) ⟨_, rfl, by rw [List.length_map]; omega, fun j d hd => ?_, fun acc hl hR => ?_⟩))))
  · obtain ⟨s, hs', rfl, hm⟩ := map_mem hd
    obtain ⟨c, m⟩ := s
    have hc : 0 ≤ c ∧ c < qs.length := h.2 _ hm
    have eq := rget_at (r := qs) hc.1 hc.2
    refine wpe_op (wpe_l (wpl_lst (wpa_cons (wpe_op (wpe_cb (wpa_cons (wpe_var (by rfl) (wpa_nil (rc_sum ?_))))))))) 
    refine wpe_op (wpe_var (by rfl) (wpe_op (wpe_var (by rfl) (wpe_int (rd_ixt (d := .int c) (by rfl) (rd_ixl eq (rd_I0i ?_)))))))
    refine wpa_cons (wpe_op (wpe_op (wpe_var (by rfl) (wpe_op (wpe_var (by rfl) (wpe_int (rd_ixt (d := .int c) (by rfl) (rd_ixl eq (wpe_int (rd_I0i ?_)))))))))) 
    refine wpa_nil ⟨len_le rfl, wpe_cb (wpa_cons (wpe_op (wpe_op (wpe_var (by rfl) (wpe_int (rd_ixt (d := .str (wayS m)) (by rfl) (wpe_str (rd_eqD 9 (by decide) (ok_str (wayS_ok _)) (ok_str (by decide +kernel)) (wpa_nil (rcIntB ?_)))))))))) ⟩
    rw [wayS_least]
    cases m
    · exact rd_ixl (d := .int (rget qs c - 1)) (by rfl) ⟨_, hs', rfl⟩
    · exact rd_ixl (d := .int (ws.sum - rget qs c)) (by rfl) ⟨_, hs', rfl⟩
  · have e : acc = (allows ws qs ss).map D.int := by
      rw [List.length_map] at hl
      refine list_of_get (by rw [hl]; simp [allows]) fun i y z => ?_
      obtain ⟨s, hs', rfl⟩ := hR i y z
      unfold allows
      rw [List.getElem?_map, List.getElem?_map, hs']; rfl
    subst e
    exact k
theorem w_law_sides {w m : Nat} (hb : b.isSome = true) (h1 : 1 ≤ w) (h6 : w ≤ 6) (hm : m ≤ 12) (k : ∀ ss : List Sd2, ss.length ≤ m → ss.Nodup → (∀ s ∈ ss, 0 ≤ s.1 ∧ s.1 < w) → P.rl (ss.map encS)) : wps K b (t_law_sides K C) [.d .bag, .d (.int (w : Nat)), .d (.int (m : Nat)), .u, .u, .u] P := by
  unfold t_law_sides
  refine wps_seq (wps_asgl (wpl_lst (wpa_nil ⟨len_le rfl, ?_⟩)))
  refine wps_seq (wps_for [4] (wpi_rng1 (wpa_cons (wtake hb (by rfl) (wpe_op (wpe_var (by rfl) (wpe_int (rd_I0i ⟨_, rfl, by omega, by omega, fun t t0 t1 => wpa_nil ⟨t, rfl, by omega, by omega, fun i E => ∃ (ss : List Sd2) (a4 a5 : En), E = [.d .bag, .d (.int (w : Nat)), .d (.int (m : Nat)), .o (ss.map encS), a4, a5] ∧ ss.length ≤ i ∧ ss.Nodup ∧ ∀ s ∈ ss, 0 ≤ s.1 ∧ s.1 < w,
    ⟨[], _, _, rfl, Nat.le_refl _, List.nodup_nil, (fun _ z => nomatch z)⟩, fun j d E hd hI => ?_, fun E hI => ?_⟩⟩))))))))
  · obtain ⟨ss, a4, a5, rfl, hl, hn, hs⟩ := hI
    obtain ⟨hj, rfl⟩ := rangeD_at hd
    refine wpg_name (by simp) ?_
    refine wps_seq (wps_asg (wpe_tup (wpa_cons (wtake hb (by rfl) (wpe_var (by rfl) ⟨(w : Int), rfl, by omega, by omega, fun c c0 c1 => wpa_cons (wpe_op (wpe_l (wpl_lst (wpa_cons (wpe_str (wpa_cons (wpe_str (wpa_nil ⟨len_le rfl, ?_⟩)))))))) ⟩))))) 
    refine wtakeC hb (by rfl) (by decide) (by decide) fun u u0 u1 => ?_
    have hat : atI [D.str ("least" : Str), .str ("most" : Str)] u = some (.str (wayS (decide (u = 1)))) := by
      have : u = 0 ∨ u = 1 := by omega
      rcases this with rfl | rfl <;> rfl
    refine rd_ixl hat (wpa_nil ⟨len_le rfl, ?_⟩)
    generalize decide (u = 1) = way
    have hlen : (ss.map encS).length ≤ 12 := by rw [List.length_map]; omega
    refine wps_if (wpt_lend 3 (ds := ss.map encS) (by rfl) (wpt_test (wpe_op (wpe_var (x := encS (c, way)) (by rfl) (wpe_var (x := dS ss) (by rfl) (rd_notIn 9 (by decide) (encS_ok 8 _) (dS_ok 7 ss) ⟨_, rfl, ifB (fun z => ?_) (fun z => ?_)⟩)))))) 
    · have hni : (c, way) ∉ ss := fun hm => by
        have z' : (ss.map encS).any (fun z => z.eq (encS (c, way))) = false := by simpa using z
        rw [List.any_eq_false] at z'
        exact z' (encS (c, way)) (List.mem_map.mpr ⟨_, hm, rfl⟩) (eq_self 9 (encS_ok 8 _))
      refine wps_insert (i := 3) (ds := ss.map encS) (by rfl) (wtake hb (by rfl) (wpe_op (wpe_lend 3 (ds := ss.map encS) (by rfl) (wpe_cb (wpa_cons (wpe_var (by rfl) (wpa_nil (rc_lenL ⟨True.intro, wpe_int (rd_I0i ?_)⟩))))))))
      rw [List.length_map]
      refine ⟨_, rfl, by omega, by omega, fun v v0 v1 => wpe_var (by rfl) ⟨v, rfl, v0, by omega, by omega, ?_⟩⟩
      have e : (ss.map encS).take v.toNat ++ [encS (c, way)] ++ (ss.map encS).drop v.toNat = (ss.take v.toNat ++ [(c, way)] ++ ss.drop v.toNat).map encS := by
        rw [List.map_append, List.map_append, List.map_take, List.map_drop]; rfl
      have e' : (ss.map encS).take v.toNat ++ [D.tup [.int c, .str (wayS way)]] ++ (ss.map encS).drop v.toNat = (ss.take v.toNat ++ [(c, way)] ++ ss.drop v.toNat).map encS := e
      rw [e']
      refine ⟨_, _, _, rfl, ?_, ?_, fun s hsm => ?_⟩
      · rw [List.length_append, List.length_append, List.length_take, List.length_drop]
        show min v.toNat ss.length + 1 + (ss.length - v.toNat) ≤ j + 1
        omega
      · have hp : (ss.take v.toNat ++ [(c, way)] ++ ss.drop v.toNat).Perm ((c, way) :: ss) := by
          rw [List.append_assoc]
          refine List.perm_middle.trans ?_
          show ((c, way) :: (ss.take v.toNat ++ ss.drop v.toNat)).Perm _
          rw [List.take_append_drop]
        exact hp.nodup_iff.mpr (List.nodup_cons.mpr ⟨hni, hn⟩)
      · rcases List.mem_append.mp hsm with hsm | hsm
        · rcases List.mem_append.mp hsm with hsm | hsm
          · exact hs s (List.mem_of_mem_take hsm)
          · rw [List.mem_singleton.mp hsm]; exact ⟨c0, c1⟩
        · exact hs s (List.mem_of_mem_drop hsm)
    · exact wps_next ⟨ss, _, _, rfl, by omega, hn, hs⟩
  · obtain ⟨ss, a4, a5, rfl, hl, hn, hs⟩ := hI
    rw [rangeD_len] at hl
    exact wps_reto (by rfl) (k ss (by omega) hn hs)
theorem rd_notB {Φ : D → Prop} {x y : Bool} (q : Φ (.bl (!decide (x = y)))) : rd2 K b rNotB (.bl x) (.bl y) Φ := fun F H v u w d1 d2 Q k => by
  cases d1; cases d2
  exact ⟨x, y, rfl, rfl, k _ F H _ .refl w (.bl _) q⟩
variable {vs : List V} {H : Hp} {Q : VK} {EE : XK}
theorem ln_law_settle (h : sp_law_settle K C vs H Q EE) : vs.length = 2 := ln_x h fun _ => rfl
theorem ln_law_rooms (h : sp_law_rooms K C vs H Q EE) : vs.length = 2 := ln_x h fun _ => rfl
theorem ln_law_sides (h : sp_law_sides K C vs H Q EE) : vs.length = 3 := ln_x h fun _ => rfl
theorem r_law_settle (cf : CF K C) (h : sp_law_settle K C vs H Q EE) : t_law_settle K C (De Q) (L2.start ["parts", "rows", "weights", "quotas", "found", "column", "reached", "entry", "value", "weight", "k"] vs) H := r_x2 (N := ["parts", "rows", "weights", "quotas", "found", "column", "reached", "entry", "value", "weight", "k"]) h (fun b a hp => w_law_settle hp.1 hp.2 fun r hr => ⟨r, rfl, hr⟩)
theorem r_law_rooms (cf : CF K C) (h : sp_law_rooms K C vs H Q EE) : t_law_rooms K C (De Q) (L2.start ["parts", "sides", "weights", "quotas", "side"] vs) H := r_x2 (N := ["parts", "sides", "weights", "quotas", "side"]) h (fun b a hp => w_law_rooms hp rfl)
theorem r_law_sides (cf : CF K C) (h : sp_law_sides K C vs H Q EE) : t_law_sides K C (De Q) (L2.start ["bag", "width", "most", "found", "k", "side"] vs) H := r_x2 (N := ["bag", "width", "most", "found", "k", "side"]) h (fun b a hp => w_law_sides hp.1 hp.2.1 hp.2.2.1 hp.2.2.2 fun ss h1 h2 h3 => ⟨ss, rfl, h1, h2, h3⟩)
end
end DL

namespace DL
open PySem PySem.Spec PyProof.Rows L2
/-! packings: more sides, weights multiplied, seats joined -/
noncomputable def hpk (ws as : List Int) : Bool := @decide (∃ idx, isPk ws as idx) (Classical.propDecidable _)
theorem hpk_true {ws as : List Int} : hpk ws as = true ↔ ∃ idx, isPk ws as idx := by unfold hpk; exact @decide_eq_true_iff _ (Classical.propDecidable _)
theorem hpk_false {ws as : List Int} : hpk ws as = false ↔ ∀ idx, ¬ isPk ws as idx := by
  rw [← Bool.not_eq_true, hpk_true]
  exact ⟨fun h i hi => h ⟨i, hi⟩, fun h ⟨i, hi⟩ => h i hi⟩
theorem hpk_eq {ws as ws' as' : List Int} (h : (∃ idx, isPk ws as idx) ↔ ∃ idx, isPk ws' as' idx) : hpk ws as = hpk ws' as' := by
  rw [Bool.eq_iff_iff, hpk_true, hpk_true]; exact h
theorem hpk_of {ws as : List Int} {x : D} (h : pkPost ws as x) : (!isNo x) = hpk ws as := by
  rcases h with ⟨rfl, h⟩ | ⟨idx, rfl, h⟩
  · exact (hpk_false.mpr h).symm
  · exact (hpk_true.mpr ⟨idx, h⟩).symm
def zsum (l : List (Int × Int)) (k : Int) : Int := (l.map fun p => if p.2 = k then p.1 else 0).sum
theorem zsum_cons (p : Int × Int) (l : List (Int × Int)) (k : Int) : zsum (p :: l) k = (if p.2 = k then p.1 else 0) + zsum l k := by unfold zsum; rw [List.map_cons, List.sum_cons]
theorem zsum_append (l m : List (Int × Int)) (k : Int) : zsum (l ++ m) k = zsum l k + zsum m k := by unfold zsum; rw [List.map_append, List.sum_append]
theorem wsumN_zip {ws idx : List Int} (hl : idx.length = ws.length) (k : Int) : ∀ {n : Nat}, n ≤ ws.length → wsumN ws n (maskP (fun j => decide (rget idx (j : Nat) = k)) ws.length) = zsum ((ws.zip idx).take n) k
  | 0, _ => rfl
  | n + 1, h => by
    have ih := wsumN_zip hl k (n := n) (by omega)
    have h1 : n < ws.length := by omega
    have h2 : n < idx.length := by omega
    have ez : (ws.zip idx)[n]? = some (ws[n], idx[n]) := by
      rw [List.getElem?_zip_eq_some]
      exact ⟨List.getElem?_eq_getElem h1, List.getElem?_eq_getElem h2⟩
    rw [take_succ' ez, zsum_append, wsumN_succ, ih, maskP_bit h1, rget_in h1, rget_in h2, zsum_cons]
    congr 1
    by_cases hk : idx[n] = k
    · rw [if_pos (decide_eq_true hk), if_pos hk]; simp [zsum]
    · rw [if_neg (by rw [decide_eq_false hk]; exact Bool.false_ne_true), if_neg hk]; simp [zsum]
theorem isPk_iff {ws as idx : List Int} : isPk ws as idx ↔ idx.length = ws.length ∧ (∀ k ∈ idx, 0 ≤ k ∧ k < as.length) ∧ ∀ k : Nat, k < as.length → zsum (ws.zip idx) (k : Int) ≤ rget as (k : Nat) := by
  constructor
  · rintro ⟨h1, h2, h3⟩
    refine ⟨h1, h2, fun k hk => ?_⟩
    have := h3 k hk
    rw [wsumN_zip h1 _ (Nat.le_refl _), List.take_of_length_le (by rw [List.length_zip]; omega)] at this
    exact this
  · rintro ⟨h1, h2, h3⟩
    refine ⟨h1, h2, fun k hk => ?_⟩
    rw [wsumN_zip h1 _ (Nat.le_refl _), List.take_of_length_le (by rw [List.length_zip]; omega)]
    exact h3 k hk
theorem zsum_none {l : List (Int × Int)} {k : Int} (h : ∀ p ∈ l, p.2 ≠ k) : zsum l k = 0 := by
  induction l with
  | nil => rfl
  | cons p l ih =>
    rw [zsum_cons, if_neg (h p List.mem_cons_self), ih fun q hq => h q (List.mem_cons_of_mem _ hq)]; rfl
theorem zsum_all {l : List (Int × Int)} {k : Int} (h : ∀ p ∈ l, p.2 = k) : zsum l k = (l.map (·.1)).sum := by
  induction l with
  | nil => rfl
  | cons p l ih =>
    rw [zsum_cons, if_pos (h p List.mem_cons_self), ih fun q hq => h q (List.mem_cons_of_mem _ hq), List.map_cons, List.sum_cons]
theorem zsum_two {l : List (Int × Int)} (h : ∀ p ∈ l, p.2 = 0 ∨ p.2 = 1) : zsum l 0 + zsum l 1 = (l.map (·.1)).sum := by
  induction l with
  | nil => rfl
  | cons p l ih =>
    have := ih fun q hq => h q (List.mem_cons_of_mem _ hq)
    rw [zsum_cons, zsum_cons, List.map_cons, List.sum_cons]
    rcases h p List.mem_cons_self with e | e
    · rw [if_pos e, if_neg (by omega)]; omega
    · rw [if_neg (by omega), if_pos e]; omega
theorem zip_fst {ws idx : List Int} (h : idx.length = ws.length) : (ws.zip idx).map (·.1) = ws := List.map_fst_zip (by omega)
theorem pk_more {ws as idx : List Int} {a : Int} (ha : 0 ≤ a) (h : isPk ws as idx) : isPk ws (as ++ [a]) idx := by
  rw [isPk_iff] at h ⊢
  obtain ⟨h1, h2, h3⟩ := h
  refine ⟨h1, fun k hk => ?_, fun k hk => ?_⟩
  · have := h2 k hk
    rw [List.length_append]
    show 0 ≤ k ∧ k < ((as.length + 1 : Nat) : Int)
    omega
  · rw [List.length_append] at hk
    have hk' : k < as.length + 1 := hk
    by_cases z : k < as.length
    · rw [rget_in (by rw [List.length_append]; omega), List.getElem_append_left z, ← rget_in z]
      exact h3 k z
    · have ek : k = as.length := by omega
      subst ek
      rw [rget_in (by rw [List.length_append]; exact Nat.lt_succ_self _), List.getElem_concat_length rfl, zsum_none fun p hp => ?_]
      · exact ha
      · have := (h2 p.2 (List.of_mem_zip hp).2).2
        omega
theorem pk_nil {ws idx : List Int} (h : isPk ws [] idx) (hw : 0 < ws.length) : False := by
  obtain ⟨h1, h2, h3⟩ := h
  have := h2 idx[0] (List.getElem_mem (by omega))
  have e : (([] : List Int).length : Int) = 0 := rfl
  omega
theorem pk_one {ws idx : List Int} {a : Int} (h : isPk ws [a] idx) : ws.sum ≤ a := by
  rw [isPk_iff] at h
  obtain ⟨h1, h2, h3⟩ := h
  have := h3 0 (by simp)
  rw [zsum_all (fun p hp => ?_), zip_fst h1] at this
  · exact this
  · have := h2 p.2 (List.of_mem_zip hp).2
    have e : (([a] : List Int).length : Int) = 1 := rfl
    show p.2 = 0
    omega
theorem pk_two {ws idx : List Int} {a c : Int} (h : isPk ws [a, c] idx) : ws.sum ≤ a + c := by
  rw [isPk_iff] at h
  obtain ⟨h1, h2, h3⟩ := h
  have e0 := h3 0 (by simp)
  have e1 := h3 1 (by simp)
  have := zsum_two (l := ws.zip idx) fun p hp => by
    have := h2 p.2 (List.of_mem_zip hp).2
    have e : (([a, c] : List Int).length : Int) = 2 := rfl
    omega
  rw [zip_fst h1] at this
  have e0' : zsum (ws.zip idx) 0 ≤ a := e0
  have e1' : zsum (ws.zip idx) 1 ≤ c := e1
  omega
/-! multiplied -/
theorem mul9 {m : Int} (h1 : 1 ≤ m) (h9 : m ≤ 9) {r q S T : Int} (r0 : 0 ≤ r) (r1 : r < m) : (S * m ≤ q * m - r - 1 ↔ S ≤ q - 1) ∧ (S * m ≤ T * m - (q * m - r) ↔ S ≤ T - q) ∧ (q * m - r ≤ S * m ↔ q ≤ S) := by
  have : m = 1 ∨ m = 2 ∨ m = 3 ∨ m = 4 ∨ m = 5 ∨ m = 6 ∨ m = 7 ∨ m = 8 ∨ m = 9 := by omega
  rcases this with rfl | rfl | rfl | rfl | rfl | rfl | rfl | rfl | rfl <;> omega
theorem sum_mulI (m : Int) : ∀ ws : List Int, (ws.map fun x => x * m).sum = ws.sum * m
  | [] => by simp
  | w :: ws => by rw [List.map_cons, List.sum_cons, List.sum_cons, sum_mulI m ws, Int.add_mul]
theorem zsum_mul (m k : Int) : ∀ ws idx : List Int, zsum ((ws.map fun x => x * m).zip idx) k = zsum (ws.zip idx) k * m
  | [], idx => by simp [zsum]
  | w :: ws, [] => by simp [zsum]
  | w :: ws, i :: idx => by
    rw [List.map_cons, List.zip_cons_cons, List.zip_cons_cons, zsum_cons, zsum_cons, zsum_mul m k ws idx, Int.add_mul]
    congr 1
    by_cases h : i = k
    · rw [if_pos h, if_pos h]
    · rw [if_neg h, if_neg h, Int.zero_mul]
theorem rget_mul (ws : List Int) (m s : Int) : rget (ws.map fun x => x * m) s = rget ws s * m := by
  unfold rget
  rw [List.getD, List.getD, List.getElem?_map]
  cases ws[s.toNat]? with
  | none => show (0 : Int) = 0 * m; rw [Int.zero_mul]
  | some x => rfl
theorem wz_mul (m e : Int) : ∀ es ws : List Int, wz (es.zip (ws.map fun x => x * m)) e = wz (es.zip ws) e * m
  | [], ws => by simp [wz]
  | x :: es, [] => by simp [wz]
  | x :: es, w :: ws => by
    rw [List.map_cons, List.zip_cons_cons, List.zip_cons_cons, wz_cons, wz_cons, wz_mul m e es ws, Int.add_mul]
    congr 1
    by_cases h : x ≤ e
    · rw [if_pos h, if_pos h]
    · rw [if_neg h, if_neg h, Int.zero_mul]
abbrev Pt := List Int × List Int
def timesOf (p q : Pt) : Prop := ∃ m : Int, 1 ≤ m ∧ m ≤ 9 ∧ q.1 = p.1.map (fun x => x * m) ∧ q.2.length = p.2.length ∧ ∀ c : Nat, c < p.2.length → ∃ r : Int, 0 ≤ r ∧ r < m ∧ rget q.2 (c : Nat) = rget p.2 (c : Nat) * m - r
theorem pk_times {p q : Pt} {ss : List Sd2} (h : timesOf p q) (hs : ∀ s ∈ ss, 0 ≤ s.1 ∧ s.1 < p.2.length) (idx : List Int) : isPk p.1 (allows p.1 p.2 ss) idx ↔ isPk q.1 (allows q.1 q.2 ss) idx := by
  obtain ⟨ws, qs⟩ := p
  obtain ⟨ws', qs'⟩ := q
  obtain ⟨m, m1, m9, e1, e2, e3⟩ := h
  have e1' : ws' = ws.map fun x => x * m := e1
  subst e1'
  have l1 : (allows ws qs ss).length = ss.length := by unfold allows; rw [List.length_map]
  have l2 : (allows (ws.map fun x => x * m) qs' ss).length = ss.length := by unfold allows; rw [List.length_map]
  have key : ∀ (k : Nat) (S : Int), k < ss.length → (S * m ≤ rget (allows (ws.map fun x => x * m) qs' ss) (k : Nat) ↔ S ≤ rget (allows ws qs ss) (k : Nat)) := fun k S hk => by
    have es : ss[k]? = some ss[k] := List.getElem?_eq_getElem hk
    have hsk := hs ss[k] (List.getElem_mem _)
    rw [allows_get es, allows_get es]
    clear es
    generalize ss[k] = s at hsk
    obtain ⟨c, w⟩ := s
    have c0 : 0 ≤ c := hsk.1
    have c1 : c < qs.length := hsk.2
    obtain ⟨n, rfl⟩ : ∃ n : Nat, c = (n : Int) := ⟨c.toNat, by omega⟩
    obtain ⟨r, r0, r1, er⟩ := e3 n (show n < qs.length by omega)
    have er' : rget qs' (n : Nat) = rget qs (n : Nat) * m - r := er
    have M := mul9 m1 m9 (q := rget qs (n : Nat)) (S := S) (T := ws.sum) r0 r1
    cases w
    · show S * m ≤ rget qs' (n : Nat) - 1 ↔ S ≤ rget qs (n : Nat) - 1
      rw [er']; exact M.1
    · show S * m ≤ (ws.map fun x => x * m).sum - rget qs' (n : Nat) ↔ S ≤ ws.sum - rget qs (n : Nat)
      rw [er', sum_mulI]; exact M.2.1
  show isPk ws (allows ws qs ss) idx ↔ isPk (ws.map fun x => x * m) (allows (ws.map fun x => x * m) qs' ss) idx
  rw [isPk_iff, isPk_iff, l1, l2, List.length_map]
  refine and_congr Iff.rfl (and_congr Iff.rfl ⟨fun h k hk => ?_, fun h k hk => ?_⟩)
  · rw [zsum_mul]; exact (key k _ hk).mpr (h k hk)
  · have := h k hk
    rw [zsum_mul] at this
    exact (key k _ hk).mp this
theorem due_times {p q : Pt} (h : timesOf p q) : dueOf p q = none := by
  obtain ⟨m, m1, m9, e1, e2, e3⟩ := h
  unfold dueOf
  rw [List.findSome?_eq_none_iff]
  intro c hc
  have hc' := List.mem_range.mp hc
  unfold due1
  rw [Option.map_eq_none_iff, List.find?_eq_none]
  intro g hg
  obtain ⟨r, r0, r1, er⟩ := e3 c hc'
  have eg : gsum q.1 g = gsum p.1 g * m := by
    unfold gsum
    rw [e1]
    have : (g.map fun s => rget (p.1.map fun x => x * m) s) = (g.map fun s => rget p.1 s).map fun x => x * m := by rw [List.map_map]; exact List.map_congr_left fun s _ => rget_mul _ _ _
    rw [this, sum_mulI]
  have e : has p c g = has q c g := by
    unfold has
    rw [er, eg]
    have M := (mul9 m1 m9 (q := rget p.2 (c : Nat)) (S := gsum p.1 g) (T := 0) r0 r1).2.2
    exact Bool.eq_iff_iff.mpr (by rw [decide_eq_true_iff, decide_eq_true_iff]; exact M.symm)
  rw [e]; simp
theorem made_times {p q : Pt} {rs : List (List Int)} {r : List Int} (h : timesOf p q) (hm : isMade p.1 p.2 rs r) : isMade q.1 q.2 rs r := by
  obtain ⟨m, m1, m9, e1, e2, e3⟩ := h
  obtain ⟨h1, h2⟩ := hm
  refine ⟨by omega, fun c q' y hq hy => ?_⟩
  have hc : c < p.2.length := by have := (List.getElem?_eq_some_iff.mp hq).1; omega
  obtain ⟨t, t0, t1, er⟩ := e3 c hc
  have eq' : q' = rget q.2 (c : Nat) := by unfold rget; rw [Int.toNat_natCast, List.getD, hq]; rfl
  obtain ⟨b1, b2, b3⟩ := h2 c _ y (rget_some hc) hy
  rw [eq', er, e1]
  have M := fun S => (mul9 m1 m9 (q := rget p.2 (c : Nat)) (S := S) (T := 0) t0 t1).2.2
  refine ⟨b1, by rw [wz_mul]; exact (M _).mpr b2, fun e he hle => b3 e he ?_⟩
  rw [wz_mul] at hle
  exact (M _).mp hle
/-! two seats joined -/
def joinOf (ws ws' : List Int) : Prop := ws' = ws ∨ ∃ w0 wa A B, ws = w0 :: (A ++ wa :: B) ∧ ws' = (w0 + wa) :: (A ++ B)
theorem pk_join {ws ws' as idx : List Int} (h : joinOf ws ws') (hp : isPk ws' as idx) : ∃ idx, isPk ws as idx := by
  rcases h with rfl | ⟨w0, wa, A, B, rfl, rfl⟩
  · exact ⟨idx, hp⟩
  · rw [isPk_iff] at hp
    obtain ⟨h1, h2, h3⟩ := hp
    cases idx with
    | nil => simp at h1
    | cons i0 I =>
      have hI : I.length = A.length + B.length := by simp at h1; omega
      have e : I = I.take A.length ++ I.drop A.length := (List.take_append_drop _ _).symm
      have l1 : (I.take A.length).length = A.length := by rw [List.length_take]; omega
      have l2 : (I.drop A.length).length = B.length := by rw [List.length_drop]; omega
      generalize I.take A.length = IA at e l1
      generalize I.drop A.length = IB at e l2
      subst e
      refine ⟨i0 :: (IA ++ i0 :: IB), isPk_iff.mpr ⟨by simp; omega, fun k hk => h2 k ?_, fun k hk => ?_⟩⟩
      · simp only [List.mem_cons, List.mem_append] at hk ⊢
        rcases hk with hk | hk | hk | hk
        · exact .inl hk
        · exact .inr (.inl hk)
        · exact .inl hk
        · exact .inr (.inr hk)
      · have := h3 k hk
        rw [List.zip_cons_cons, zsum_cons, List.zip_append (by omega), zsum_append] at this
        rw [List.zip_cons_cons, zsum_cons, List.zip_append (by omega), zsum_append, List.zip_cons_cons, zsum_cons]
        by_cases hz : i0 = (k : Int)
        · rw [if_pos hz] at this
          rw [if_pos hz, if_pos hz]
          have this' : w0 + wa + (zsum (A.zip IA) k + zsum (B.zip IB) k) ≤ rget as (k : Nat) := this
          show w0 + (zsum (A.zip IA) k + (wa + zsum (B.zip IB) k)) ≤ _
          omega
        · rw [if_neg hz] at this
          rw [if_neg hz, if_neg hz]
          have this' : 0 + (zsum (A.zip IA) k + zsum (B.zip IB) k) ≤ rget as (k : Nat) := this
          show 0 + (zsum (A.zip IA) k + (0 + zsum (B.zip IB) k)) ≤ _
          omega
/-! the mirrored council -/
theorem allow_mir {ws qs : List Int} {c : Int} {w : Bool} (h0 : 0 ≤ c) (h1 : c < qs.length) : allow ws (mirQ ws qs) c (!w) = allow ws qs c w := by
  have e : rget (mirQ ws qs) c = ws.sum + 1 - rget qs c := by
    unfold rget mirQ
    rw [List.getD, List.getD, List.getElem?_map, List.getElem?_eq_getElem (show c.toNat < qs.length by omega)]; rfl
  cases w
  · show ws.sum - rget (mirQ ws qs) c = rget qs c - 1
    rw [e]; omega
  · show rget (mirQ ws qs) c - 1 = ws.sum - rget qs c
    rw [e]; omega
theorem cut_mid {ds : List D} {k l : Nat} (h1 : k ≤ l) (h : l ≤ ds.length) : cutD ds (some (k : Int)) (some (l : Int)) = (ds.drop k).take (l - k) := by
  unfold cutD
  rw [HT.sIx_nat, HT.sIx_nat, Nat.min_eq_left h, Nat.min_eq_left (by omega)]
end DL

namespace DL
open PySem PySem.Spec PyProof.Rows L2
/-! the law's own search for packings (_law_heavy): seats put into rooms one after another, rooms as a bag -/
def Fill : List Int → List Int → Prop
  | [], _ => True
  | w :: ws, R => ∃ r ∈ R, w ≤ r ∧ Fill ws ((r - w) :: R.erase r)
theorem Fill.perm : ∀ {ws R S : List Int}, R.Perm S → Fill ws R → Fill ws S
  | [], _, _, _, _ => trivial
  | w :: ws, R, S, p, ⟨r, hr, hw, h⟩ => ⟨r, p.mem_iff.mp hr, hw, Fill.perm ((p.erase r).cons _) h⟩
theorem erase_cons_other {a : Int} {R : List Int} {r : Int} (h : r ∈ (a :: R)) : (a :: R).erase r = R ∨ (r ∈ R ∧ (a :: R).erase r = a :: R.erase r) := by
  by_cases e : a = r
  · subst e; left; simp
  · right
    refine ⟨?_, by rw [List.erase_cons_tail (by simpa using e)]⟩
    rcases List.mem_cons.mp h with h | h
    · exact absurd h.symm e
    · exact h
theorem Fill.swap {a c : Int} {ws R : List Int} (hc : 0 ≤ c) (ha : 0 ≤ a) (h : Fill (a :: c :: ws) R) : Fill (c :: a :: ws) R := by
  obtain ⟨r, hr, h1, s, hs, h2, h3⟩ := h
  rcases erase_cons_other hs with e | ⟨hs', e⟩
  · -- both into one room, or the rest taken as a room
    by_cases es : s = r - a
    · subst es
      refine ⟨r, hr, by omega, r - c, List.mem_cons_self, by omega, ?_⟩
      have e1 : ((r - c) :: R.erase r).erase (r - c) = R.erase r := by simp
      rw [e1]
      have e2 : ((r - a) :: R.erase r).erase (r - a) = R.erase r := by simp
      rw [e2] at h3
      have e3 : r - c - a = r - a - c := by omega
      rw [e3]; exact h3
    · have hs' : s ∈ R.erase r := by
        rcases List.mem_cons.mp hs with z | z
        · exact absurd z es
        · exact z
      have e' : ((r - a) :: R.erase r).erase s = (r - a) :: (R.erase r).erase s := by rw [List.erase_cons_tail (by simpa using fun z => es z.symm)]
      have hsR : s ∈ R := List.mem_of_mem_erase hs'
      have hrs : r ∈ R.erase s := by
        by_cases z : s = r
        · subst z; exact hs'
        · exact (List.mem_erase_of_ne (fun q => z q.symm)).mpr hr
      refine ⟨s, hsR, h2, r, List.mem_cons_of_mem _ hrs, h1, ?_⟩
      rw [e'] at h3
      refine Fill.perm ?_ h3
      have p1 : ((s - c) :: R.erase s).Perm (r :: (s - c) :: (R.erase s).erase r) := ((List.perm_cons_erase hrs).cons _).trans (List.Perm.swap ..)
      have p2 : (((s - c) :: R.erase s).erase r).Perm ((s - c) :: (R.erase s).erase r) := by
        have := p1.erase r
        simpa using this
      rw [List.erase_comm] at p2
      exact (List.Perm.swap ..).trans (((p2.symm).cons _))
  · have es := e
    have hsR : s ∈ R := List.mem_of_mem_erase hs'
    have hrs : r ∈ R.erase s := by
      by_cases z : s = r
      · subst z; exact hs'
      · exact (List.mem_erase_of_ne (fun q => z q.symm)).mpr hr
    refine ⟨s, hsR, h2, r, List.mem_cons_of_mem _ hrs, h1, ?_⟩
    rw [e] at h3
    refine Fill.perm ?_ h3
    have p1 : ((s - c) :: R.erase s).Perm (r :: (s - c) :: (R.erase s).erase r) := ((List.perm_cons_erase hrs).cons _).trans (List.Perm.swap ..)
    have p2 : (((s - c) :: R.erase s).erase r).Perm ((s - c) :: (R.erase s).erase r) := by
      have := p1.erase r
      simpa using this
    rw [List.erase_comm] at p2
    exact (List.Perm.swap ..).trans (((p2.symm).cons _))
theorem Fill.permW {ws vs : List Int} (p : ws.Perm vs) : (∀ w ∈ ws, 0 ≤ w) → ∀ {R : List Int}, Fill ws R → Fill vs R := by
  induction p with
  | nil => exact fun _ _ h => h
  | cons x p ih => exact fun hw R ⟨r, hr, h1, h2⟩ => ⟨r, hr, h1, ih (fun w h => hw w (List.mem_cons_of_mem _ h)) h2⟩
  | swap x y l => exact fun hw R h => Fill.swap (hw x (by simp)) (hw y (by simp)) h
  | trans p q ih1 ih2 => exact fun hw R h => ih2 (fun w h => hw w (p.mem_iff.mpr h)) (ih1 hw h)
theorem set_perm_erase {R : List Int} {j : Nat} (h : j < R.length) (x : Int) : (R.set j x).Perm (x :: R.erase R[j]) := by
  have p1 : (R.set j x).Perm (x :: R.eraseIdx j) := by
    rw [List.set_eq_take_append_cons_drop, if_pos h, List.eraseIdx_eq_take_drop_succ]
    exact List.perm_middle
  have p2 : R.Perm (R[j] :: R.eraseIdx j) := by
    rw [List.eraseIdx_eq_take_drop_succ]
    conv => lhs; rw [← List.take_append_drop j R, List.drop_eq_getElem_cons h]
    exact List.perm_middle
  have p3 : (R.erase R[j]).Perm (R.eraseIdx j) := by
    have := p2.erase R[j]
    simpa using this
  exact p1.trans (p3.symm.cons _)
theorem zsum_nn {l : List (Int × Int)} {k : Int} (h : ∀ p ∈ l, 0 ≤ p.1) : 0 ≤ zsum l k := by
  induction l with
  | nil => exact Int.le_refl _
  | cons p l ih =>
    have h1 := ih fun q hq => h q (List.mem_cons_of_mem _ hq)
    have h2 := h p List.mem_cons_self
    rw [zsum_cons]
    split <;> omega
/-- packings by indexes and by rooms taken one after another -/
theorem fill_iff : ∀ {ws R : List Int}, (∀ w ∈ ws, 0 ≤ w) → (∀ r ∈ R, 0 ≤ r) → (Fill ws R ↔ ∃ idx, isPk ws R idx)
  | [], R, _, hR => ⟨fun _ => ⟨[], isPk_iff.mpr ⟨rfl, (fun _ z => nomatch z), fun k hk => by
      rw [rget_in hk]; exact hR _ (List.getElem_mem _)⟩⟩, fun _ => trivial⟩
  | w :: ws, R, hw, hR => by
    have hw0 := hw w List.mem_cons_self
    have hws : ∀ x ∈ ws, 0 ≤ x := fun x h => hw x (List.mem_cons_of_mem _ h)
    constructor
    · rintro ⟨r, hr, h1, h2⟩
      obtain ⟨j, hj, rfl⟩ := List.mem_iff_getElem.mp hr
      have h3 := Fill.perm (set_perm_erase hj (R[j] - w)).symm h2
      have hR' : ∀ x ∈ R.set j (R[j] - w), 0 ≤ x := fun x hx => by
        rcases List.mem_or_eq_of_mem_set hx with hx | rfl
        · exact hR x hx
        · omega
      obtain ⟨idx, hidx⟩ := (fill_iff hws hR').mp h3
      rw [isPk_iff] at hidx
      obtain ⟨i1, i2, i3⟩ := hidx
      rw [List.length_set] at i2 i3
      refine ⟨(j : Int) :: idx, isPk_iff.mpr ⟨by simp [i1], fun k hk => ?_, fun k hk => ?_⟩⟩
      · rcases List.mem_cons.mp hk with rfl | hk
        · omega
        · exact i2 k hk
      · rw [List.zip_cons_cons, zsum_cons]
        have := i3 k hk
        rw [rget_in (by rw [List.length_set]; exact hk)] at this
        rw [rget_in hk]
        by_cases e : j = k
        · subst e
          rw [List.getElem_set_self] at this
          rw [if_pos rfl]; show w + _ ≤ _; omega
        · rw [List.getElem_set_ne e] at this
          rw [if_neg (by show ¬ (j : Int) = k; omega)]; omega
    · rintro ⟨idx, hidx⟩
      rw [isPk_iff] at hidx
      obtain ⟨i1, i2, i3⟩ := hidx
      cases idx with
      | nil => simp at i1
      | cons j idx =>
        have hj := i2 j List.mem_cons_self
        obtain ⟨n, rfl⟩ : ∃ n : Nat, j = (n : Int) := ⟨j.toNat, by omega⟩
        have hn : n < R.length := by omega
        have hz : 0 ≤ zsum (ws.zip idx) n := zsum_nn fun p hp => hws _ (List.of_mem_zip hp).1
        have hwr : w ≤ R[n] := by
          have := i3 n hn
          rw [List.zip_cons_cons, zsum_cons, if_pos rfl, rget_in hn] at this
          have this' : w + zsum (ws.zip idx) n ≤ R[n] := this
          omega
        have hR' : ∀ x ∈ R.set n (R[n] - w), 0 ≤ x := fun x hx => by
          rcases List.mem_or_eq_of_mem_set hx with hx | rfl
          · exact hR x hx
          · omega
        refine ⟨R[n], List.getElem_mem _, hwr, Fill.perm (set_perm_erase hn _) ((fill_iff hws hR').mpr ⟨idx, isPk_iff.mpr ⟨by simpa using i1, fun k hk => ?_, fun k hk => ?_⟩⟩)⟩
        · rw [List.length_set]; exact i2 k (List.mem_cons_of_mem _ hk)
        · rw [List.length_set] at hk
          have := i3 k hk
          rw [List.zip_cons_cons, zsum_cons, rget_in hk] at this
          rw [rget_in (by rw [List.length_set]; exact hk)]
          by_cases e : n = k
          · subst e
            rw [List.getElem_set_self]
            rw [if_pos rfl] at this
            have this' : w + zsum (ws.zip idx) n ≤ R[n] := this
            omega
          · rw [List.getElem_set_ne e]
            rw [if_neg (by show ¬ (n : Int) = k; omega)] at this
            omega
/-- packings don't ask for the order -/
theorem hpk_perm {ws vs R S : List Int} (hw : ∀ w ∈ ws, 0 ≤ w) (hR : ∀ r ∈ R, 0 ≤ r) (p : ws.Perm vs) (q : R.Perm S) : hpk ws R = hpk vs S := by
  have hv : ∀ w ∈ vs, 0 ≤ w := fun w h => hw w (p.mem_iff.mpr h)
  have hS : ∀ w ∈ S, 0 ≤ w := fun w h => hR w (q.mem_iff.mpr h)
  exact hpk_eq ((fill_iff hw hR).symm.trans ((⟨fun h => Fill.perm q (Fill.permW p hw h), fun h => Fill.permW p.symm hv (Fill.perm q.symm h)⟩ : Fill ws R ↔ Fill vs S).trans (fill_iff hv hS)))
end DL

namespace DL
open PySem PySem.Spec PyProof.Rows L2
/-! the levels of sorted loads -/
def dsort (l : List Int) : List Int := l.mergeSort fun a c => decide (c ≤ a)
theorem dsort_perm (l : List Int) : (dsort l).Perm l := List.mergeSort_perm _ _
theorem dsort_pw (l : List Int) : (dsort l).Pairwise fun a c => c ≤ a := by
  refine List.Pairwise.imp (fun h => of_decide_eq_true h) (List.pairwise_mergeSort (le := fun a c => decide (c ≤ a)) (fun a c e h1 h2 => ?_) (fun a c => ?_) l)
  · exact decide_eq_true (by have := of_decide_eq_true h1; have := of_decide_eq_true h2; omega)
  · by_cases h : c ≤ a
    · rw [decide_eq_true h]; rfl
    · rw [decide_eq_true (show a ≤ c by omega), Bool.or_true]
theorem dsort_of {l m : List Int} (p : m.Perm l) (h : m.Pairwise fun a c => c ≤ a) : m = dsort l :=
  List.Perm.eq_of_pairwise (le := fun a c => c ≤ a) (fun a c _ _ h1 h2 => Int.le_antisymm h2 h1) h (dsort_pw l) (p.trans (dsort_perm l).symm)
def addAt (l : List Int) (k : Nat) (w : Int) : List Int := l.take k ++ [(l ++ [0]).getD k 0 + w] ++ l.drop (k + 1)
theorem addAt_lt {l : List Int} {k : Nat} (w : Int) (h : k < l.length) : (addAt l k w).Perm ((l[k] + w) :: l.erase l[k]) := by
  have e : (l ++ [0]).getD k 0 = l[k] := by rw [List.getD, List.getElem?_append_left h, List.getElem?_eq_getElem h]; rfl
  have e2 : addAt l k w = l.set k (l[k] + w) := by
    unfold addAt
    rw [e, List.set_eq_take_append_cons_drop, if_pos h, List.append_assoc]; rfl
  rw [e2]
  exact set_perm_erase h _
theorem addAt_end (l : List Int) (w : Int) : addAt l l.length w = l ++ [w] := by
  unfold addAt
  rw [List.take_length, List.drop_of_length_le (Nat.le_succ _), List.append_nil, List.getD, List.getElem?_concat_length]
  simp
/-- one item more, or a greater one: as bags -/
theorem addAt_bag {l : List Int} {k : Nat} (w : Int) (h : k ≤ l.length) : ∃ x m, (addAt l k w).Perm ((x + w) :: m) ∧ ((l.Perm (x :: m)) ∨ (x = 0 ∧ l.Perm m)) := by
  by_cases hk : k < l.length
  · exact ⟨l[k], l.erase l[k], addAt_lt w hk, .inl (List.perm_cons_erase (List.getElem_mem hk))⟩
  · have : k = l.length := by omega
    subst this
    refine ⟨0, l, ?_, .inr ⟨rfl, .refl _⟩⟩
    rw [addAt_end, Int.zero_add]
    exact List.perm_append_comm
def fits (tops l : List Int) : Prop := l.length ≤ tops.length ∧ ∀ j : Nat, j < l.length → rget l (j : Nat) ≤ rget tops (j : Nat)
def Real (pre l : List Int) : Prop := ∀ (ps : List (Int × Int)) (R2 : List Int), l.Perm (ps.map (·.1)) → (∀ p ∈ ps, p.1 ≤ p.2) → Fill pre (ps.map (·.2) ++ R2)
theorem map_pull {f : Int × Int → Int} {ps : List (Int × Int)} {x : Int} {m : List Int} (h : (ps.map f).Perm (x :: m)) : ∃ p ∈ ps, f p = x ∧ ((ps.erase p).map f).Perm m := by
  have hx : x ∈ ps.map f := h.mem_iff.mpr List.mem_cons_self
  obtain ⟨p, hp, rfl⟩ := List.mem_map.mp hx
  refine ⟨p, hp, rfl, ?_⟩
  have h2 : (ps.map f).Perm (f p :: (ps.erase p).map f) := (List.perm_cons_erase hp).map f
  exact (List.Perm.cons_inv (h2.symm.trans h))
theorem erase_front {R : List Int} {r : Int} {m : List Int} (h : R.Perm (r :: m)) : (R.erase r).Perm m := by
  have := h.erase r
  simpa using this
theorem real_step {pre l : List Int} {k : Nat} {w : Int} (hl : ∀ x ∈ l, 0 ≤ x) (hk : k ≤ l.length) (h : Real pre l) : Real (w :: pre) (dsort (addAt l k w)) := fun ps R2 hp hle => by
  obtain ⟨x, m, h1, h2⟩ := addAt_bag w hk
  have h3 : (ps.map (·.1)).Perm ((x + w) :: m) := hp.symm.trans ((dsort_perm _).trans h1)
  obtain ⟨p, hpm, hpx, hpr⟩ := map_pull h3
  have hpe := hle p hpm
  have hR : (ps.map (·.2) ++ R2).Perm (p.2 :: ((ps.erase p).map (·.2) ++ R2)) := ((List.perm_cons_erase hpm).map (·.2)).append_right R2
  have x0 : 0 ≤ x := by
    rcases h2 with h2 | ⟨h2, _⟩
    · exact hl x (h2.mem_iff.mpr List.mem_cons_self)
    · omega
  refine ⟨p.2, hR.mem_iff.mpr List.mem_cons_self, by omega, ?_⟩
  rcases h2 with h2 | ⟨rfl, h2⟩
  · have := h ((x, p.2 - w) :: ps.erase p) R2 (h2.trans (hpr.symm.cons _)) (fun q hq => by
      rcases List.mem_cons.mp hq with rfl | hq
      · show x ≤ p.2 - w; omega
      · exact hle q (List.mem_of_mem_erase hq))
    exact Fill.perm ((erase_front hR).symm.cons _) this
  · have := h (ps.erase p) ((p.2 - w) :: R2) (h2.trans hpr.symm) (fun q hq => hle q (List.mem_of_mem_erase hq))
    refine Fill.perm ?_ this
    exact List.perm_middle.trans ((erase_front hR).symm.cons _)
/-! a load that can be put is under the sorted rooms -/
theorem count_top {l : List Int} (h : l.Pairwise fun a c => c ≤ a) {j : Nat} (hj : j < l.length) : j + 1 ≤ l.countP fun y => decide (l[j] ≤ y) := by
  have e : l.take (j + 1) ++ l.drop (j + 1) = l := List.take_append_drop _ _
  have h1 : (l.take (j + 1)).countP (fun y => decide (l[j] ≤ y)) = (l.take (j + 1)).length := by
    rw [List.countP_eq_length]
    intro y hy
    obtain ⟨i, hi, rfl⟩ := List.mem_iff_getElem.mp hy
    rw [List.length_take] at hi
    rw [List.getElem_take]
    refine decide_eq_true ?_
    by_cases z : i = j
    · subst z; exact Int.le_refl _
    · exact List.pairwise_iff_getElem.mp h i j (by omega) hj (by omega)
  have h2 : l.countP (fun y => decide (l[j] ≤ y)) = (l.take (j + 1)).countP (fun y => decide (l[j] ≤ y)) + (l.drop (j + 1)).countP (fun y => decide (l[j] ≤ y)) := by
    rw [← List.countP_append, e]
  rw [h2, h1, List.length_take]
  omega
theorem count_low {l : List Int} (h : l.Pairwise fun a c => c ≤ a) {j : Nat} (hj : j < l.length) {x : Int} (hx : l[j] < x) : (l.countP fun y => decide (x ≤ y)) ≤ j := by
  have e : l.take j ++ l.drop j = l := List.take_append_drop _ _
  have h1 : (l.drop j).countP (fun y => decide (x ≤ y)) = 0 := by
    rw [List.countP_eq_zero]
    intro y hy
    obtain ⟨i, hi, rfl⟩ := List.mem_iff_getElem.mp hy
    rw [List.length_drop] at hi
    rw [List.getElem_drop]
    have : l[j + i] ≤ l[j] := by
      by_cases z : i = 0
      · subst z; exact Int.le_refl _
      · exact List.pairwise_iff_getElem.mp h j (j + i) hj (by omega) (by omega)
    rw [decide_eq_true_iff]; omega
  have h2 : l.countP (fun y => decide (x ≤ y)) = (l.take j).countP (fun y => decide (x ≤ y)) + (l.drop j).countP (fun y => decide (x ≤ y)) := by
    rw [← List.countP_append, e]
  rw [h2, h1]
  have := List.countP_le_length (p := fun y => decide (x ≤ y)) (l := l.take j)
  rw [List.length_take] at this
  omega
theorem count_le {x : Int} : ∀ {ps : List (Int × Int)}, (∀ p ∈ ps, p.1 ≤ p.2) → (ps.map (·.1)).countP (fun y => decide (x ≤ y)) ≤ (ps.map (·.2)).countP (fun y => decide (x ≤ y))
  | [], _ => Nat.le_refl _
  | p :: ps, h => by
    have ih := count_le (x := x) fun q hq => h q (List.mem_cons_of_mem _ hq)
    have h1 := h p List.mem_cons_self
    rw [List.map_cons, List.map_cons, List.countP_cons, List.countP_cons]
    by_cases z : x ≤ p.1
    · rw [if_pos (decide_eq_true z), if_pos (decide_eq_true (by omega))]; omega
    · rw [if_neg (by rw [decide_eq_true_iff]; exact z)]; omega
theorem fits_of {tops l R2 : List Int} {ps : List (Int × Int)} (hl : l.Pairwise fun a c => c ≤ a) (ht : tops.Pairwise fun a c => c ≤ a) (h1 : l.Perm (ps.map (·.1))) (h2 : tops.Perm (ps.map (·.2) ++ R2)) (h3 : ∀ p ∈ ps, p.1 ≤ p.2) : fits tops l := by
  have l1 : l.length = ps.length := by rw [h1.length_eq, List.length_map]
  have l2 : tops.length = ps.length + R2.length := by rw [h2.length_eq, List.length_append, List.length_map]
  refine ⟨by omega, fun j hj => ?_⟩
  have hj2 : j < tops.length := by omega
  rw [rget_in hj, rget_in hj2]
  refine Int.not_lt.mp fun hlt => ?_
  have c1 := count_top hl hj
  have c2 := count_low ht hj2 hlt
  have c3 := count_le (x := l[j]) h3
  rw [h1.countP_eq] at c1
  rw [h2.countP_eq, List.countP_append] at c2
  omega
def Good (tops l rest : List Int) : Prop := ∃ (ps : List (Int × Int)) (R2 : List Int), l.Perm (ps.map (·.1)) ∧ tops.Perm (ps.map (·.2) ++ R2) ∧ (∀ p ∈ ps, p.1 ≤ p.2) ∧ Fill rest (ps.map (fun p => p.2 - p.1) ++ R2)
theorem good_step {tops l rest : List Int} {w : Int} (ht : tops.Pairwise fun a c => c ≤ a) (h : Good tops l (w :: rest)) : ∃ k, k ≤ l.length ∧ fits tops (dsort (addAt l k w)) ∧ Good tops (dsort (addAt l k w)) rest := by
  obtain ⟨ps, R2, h1, h2, h3, r, hr, hw, hf⟩ := h
  rcases List.mem_append.mp hr with hr | hr
  · obtain ⟨p, hp, rfl⟩ := List.mem_map.mp hr
    have hpl : p.1 ∈ l := h1.mem_iff.mpr (List.mem_map.mpr ⟨p, hp, rfl⟩)
    obtain ⟨k, hk, ek⟩ := List.mem_iff_getElem.mp hpl
    have a1 := addAt_lt w hk
    rw [ek] at a1
    have a2 : (l.erase p.1).Perm ((ps.erase p).map (·.1)) := erase_front (h1.trans ((List.perm_cons_erase hp).map _))
    have q1 : (dsort (addAt l k w)).Perm (((p.1 + w, p.2) :: ps.erase p).map (·.1)) := (dsort_perm _).trans (a1.trans (a2.cons _))
    have q2 : tops.Perm (((p.1 + w, p.2) :: ps.erase p).map (·.2) ++ R2) := h2.trans (((List.perm_cons_erase hp).map (·.2)).append_right R2)
    have q3 : ∀ q ∈ (p.1 + w, p.2) :: ps.erase p, q.1 ≤ q.2 := fun q hq => by
      rcases List.mem_cons.mp hq with rfl | hq
      · show p.1 + w ≤ p.2; omega
      · exact h3 q (List.mem_of_mem_erase hq)
    refine ⟨k, by omega, fits_of (dsort_pw _) ht q1 q2 q3, _, R2, q1, q2, q3, ?_⟩
    have hR : (ps.map (fun p => p.2 - p.1) ++ R2).Perm ((p.2 - p.1) :: ((ps.erase p).map (fun p => p.2 - p.1) ++ R2)) := ((List.perm_cons_erase hp).map _).append_right R2
    have e : p.2 - p.1 - w = p.2 - (p.1 + w) := by omega
    rw [e] at hf
    exact Fill.perm ((erase_front hR).cons _) hf
  · have q1 : (dsort (addAt l l.length w)).Perm (((w, r) :: ps).map (·.1)) := (dsort_perm _).trans (by
      rw [addAt_end]
      exact List.perm_append_comm.trans (h1.cons _))
    have q2 : tops.Perm (((w, r) :: ps).map (·.2) ++ R2.erase r) := h2.trans (((List.perm_cons_erase hr).append_left _).trans List.perm_middle)
    have q3 : ∀ q ∈ (w, r) :: ps, q.1 ≤ q.2 := fun q hq => by
      rcases List.mem_cons.mp hq with rfl | hq
      · exact hw
      · exact h3 q hq
    refine ⟨l.length, Nat.le_refl _, fits_of (dsort_pw _) ht q1 q2 q3, _, R2.erase r, q1, q2, q3, ?_⟩
    have hR : (ps.map (fun p => p.2 - p.1) ++ R2).Perm (r :: (ps.map (fun p => p.2 - p.1) ++ R2.erase r)) := ((List.perm_cons_erase hr).append_left _).trans List.perm_middle
    exact Fill.perm ((erase_front hR).cons _) hf
def NextOk (tops : List Int) (w : Int) (L N : List (List Int)) : Prop := ∀ l, l ∈ N ↔ ∃ load ∈ L, ∃ k, k ≤ load.length ∧ l = dsort (addAt load k w) ∧ fits tops l
structure LevOk (tops pre rest : List Int) (L : List (List Int)) : Prop where
  nn : ∀ l ∈ L, ∀ x ∈ l, 0 ≤ x
  len : ∀ l ∈ L, l.length ≤ pre.length
  real : ∀ l ∈ L, Real pre.reverse l
  fit : pre ≠ [] → ∀ l ∈ L, fits tops l
  all : Fill (pre ++ rest) tops → ∃ l ∈ L, Good tops l rest
theorem lev_zero (tops ws : List Int) : LevOk tops [] ws [[]] := by
  refine ⟨fun l hl x hx => ?_, fun l hl => ?_, fun l hl ps R2 _ _ => trivial, fun h => absurd rfl h, fun h => ⟨[], List.mem_cons_self, [], tops, .refl _, .refl _, (fun _ z => nomatch z), h⟩⟩
  · rw [List.mem_singleton.mp hl] at hx; cases hx
  · rw [List.mem_singleton.mp hl]; exact Nat.le_refl _
theorem addAt_len {l : List Int} {k : Nat} {w : Int} (h : k ≤ l.length) : (dsort (addAt l k w)).length ≤ l.length + 1 := by
  rw [(dsort_perm _).length_eq]
  unfold addAt
  rw [List.length_append, List.length_append, List.length_take, List.length_drop]
  show min k l.length + 1 + (l.length - (k + 1)) ≤ l.length + 1
  omega
theorem lev_succ {tops pre rest : List Int} {w : Int} {L N : List (List Int)} (ht : tops.Pairwise fun a c => c ≤ a) (hw : 0 ≤ w) (h : LevOk tops pre (w :: rest) L) (hn : NextOk tops w L N) : LevOk tops (pre ++ [w]) rest N := by
  refine ⟨fun l hl x hx => ?_, fun l hl => ?_, fun l hl => ?_, fun _ l hl => ?_, fun hf => ?_⟩
  · obtain ⟨load, hL, k, hk, rfl, _⟩ := (hn l).mp hl
    obtain ⟨y, m, b1, b2⟩ := addAt_bag w hk
    have hx' : x ∈ (y + w) :: m := ((dsort_perm _).trans b1).mem_iff.mp hx
    have nn := h.nn load hL
    rcases b2 with b2 | ⟨rfl, b2⟩
    · rcases List.mem_cons.mp hx' with rfl | hx'
      · have := nn y (b2.mem_iff.mpr List.mem_cons_self); omega
      · exact nn x (b2.mem_iff.mpr (List.mem_cons_of_mem _ hx'))
    · rcases List.mem_cons.mp hx' with rfl | hx'
      · omega
      · exact nn x (b2.mem_iff.mpr hx')
  · obtain ⟨load, hL, k, hk, rfl, _⟩ := (hn l).mp hl
    have := addAt_len (w := w) hk
    have := h.len load hL
    rw [List.length_append]
    show _ ≤ pre.length + 1
    omega
  · obtain ⟨load, hL, k, hk, rfl, _⟩ := (hn l).mp hl
    rw [List.reverse_append]
    exact real_step (h.nn load hL) hk (h.real load hL)
  · obtain ⟨load, hL, k, hk, e, hfit⟩ := (hn l).mp hl
    exact hfit
  · obtain ⟨load, hL, hg⟩ := h.all (by rw [List.append_assoc] at hf; exact hf)
    obtain ⟨k, hk, hfit, hg2⟩ := good_step ht hg
    exact ⟨_, (hn _).mpr ⟨load, hL, k, hk, rfl, hfit⟩, hg2⟩
theorem fits_ps {tops l : List Int} (h : fits tops l) : ∃ (ps : List (Int × Int)) (R2 : List Int), l = ps.map (·.1) ∧ tops = ps.map (·.2) ++ R2 ∧ ∀ p ∈ ps, p.1 ≤ p.2 := by
  have hl := h.1
  refine ⟨l.zip (tops.take l.length), tops.drop l.length, (List.map_fst_zip (by rw [List.length_take]; omega)).symm, ?_, fun p hp => ?_⟩
  · rw [List.map_snd_zip (by rw [List.length_take]; omega), List.take_append_drop]
  · obtain ⟨j, hj⟩ := List.mem_iff_getElem?.mp hp
    obtain ⟨j1, j2⟩ := List.getElem?_zip_eq_some.mp hj
    have hj1 := (List.getElem?_eq_some_iff.mp j1).1
    have := h.2 j hj1
    have e1 : rget l (j : Nat) = p.1 := by unfold rget; rw [Int.toNat_natCast, List.getD, j1]; rfl
    have e2 : rget tops (j : Nat) = p.2 := by
      rw [List.getElem?_take_of_lt hj1] at j2
      unfold rget; rw [Int.toNat_natCast, List.getD, j2]; rfl
    omega
/-- the last level tells -/
theorem lev_end {tops ws : List Int} {L : List (List Int)} (hw : ∀ w ∈ ws, 0 ≤ w) (hne : ws ≠ []) (ht : ∀ r ∈ tops, 0 ≤ r) (h : LevOk tops ws [] L) : decide (0 < L.length) = hpk ws tops := by
  rw [Bool.eq_iff_iff, decide_eq_true_iff, hpk_true, ← fill_iff hw ht]
  constructor
  · intro hl
    obtain ⟨l, hL⟩ : ∃ l, l ∈ L := ⟨L[0], List.getElem_mem _⟩
    obtain ⟨ps, R2, rfl, e2, e3⟩ := fits_ps (h.fit hne l hL)
    have := h.real _ hL ps R2 (.refl _) e3
    rw [← e2] at this
    exact Fill.permW (List.reverse_perm ws) (fun w hm => hw w (List.mem_reverse.mp hm)) this
  · intro hf
    obtain ⟨l, hL, _⟩ := h.all (by rw [List.append_nil]; exact hf)
    exact List.length_pos_of_mem hL
end DL

namespace GL
open PySem PySem.Spec PyProof.Rows L2
/-! {k: v} with a tuple as its key -/
def tDispT (tk tv : TE) : TE := fun σ H Q => ∀ p, H p = none → tPairs [(tk, tv)] σ (upd H p (.dT [])) fun ps H2 => H2 p = some (.dT []) ∧ ∃ (b : Addr) (k : List Key) (y : V), ps = [(.ref b, y)] ∧ H2 b = some (.tup (k.map kV)) ∧ Q (.ref p) (upd H2 p (.dT [(k, y)]))
theorem pe_dispT {X : Cx} {pos : Pos} {k v : Expr} {tk tv : TE} (hu : X.A.units + 1 < cLine) (hk : PE X k tk) (hv : PE X v tv) : PE X (.Dict [some k] [v] pos) (tDispT tk tv) := by
  refine ⟨fun pins s σ H Q I q => ?_⟩
  have hn := I.hok.fresh (Nat.le_refl s.heap.objs.size)
  have I1 := I.laid (a := s.heap.objs.size) (o := .dT []) (h' := s.heap.push { cls := .type "dict", data := .dict #[] }) (t' := s.toks) (fun _ _ q => Heap.get?_push_of_some _ q) (Nat.le_refl _) (dt_empty s.heap I.big)
  rw [arm_eval_Dict, zip_pairTrees [some k] [v] X.env pos rfl rfl, dictDisplay_pairs (pairTrees [some k] [v] X.env pos) (by simp [pairTrees]) (by simp [pairTrees])]
  refine wpAny_bind (wpAny_standAt (wpAny_bind (wpAny_subDictH (knd := tupleKind (mixKind X.prog X.w)) (Q := fun d s' => wpAny (model X.prog X.w) X.A (pure (Value.ref d)) (EP X pins σ Q) X.xe s') (show X.A.units < cLine by omega) (by simp [pairTrees]) ?_)))
  refine thn ((pps_cons hk hv pps_nil).run pins _ σ _ _ I1 (q _ hn)) fun us s2 ⟨ps, H2, I2, rel, e, b, kk, y, ep, eb, q2⟩ => ?_
  subst ep
  cases rel with
  | @cons _ p _ _ h1 h2 =>
    cases h2
    obtain ⟨p1, p2⟩ := p
    obtain ⟨r1, r2⟩ := h1
    cases (show p1 = Value.ref b from r1)
    obtain ⟨z, hd, xs, r0, dd⟩ := dt_of I2.hok e
    cases r0
    refine ⟨[(kk, b, p2)], ⟨rfl, rfl, key_of I2.hok eb, trivial⟩, dd, fun h' tk' dd' hs => wpAny_pure ⟨.ref s.heap.objs.size, _, ?_, rfl, q2⟩⟩
    obtain ⟨q, es, ep, hq, h2, h3, h4, _, h5⟩ := dd'
    refine d_write I2 (by rw [e]; exact True.intro) hs ⟨q, hq⟩ ⟨by rw [sizeLine_eq]; show 1 ≤ _; decide, hd, [(kk, b, p2)], .cons ⟨rfl, ?_, r2⟩ .nil, q, es, ep, hq, h2, h3, h4, h5⟩
    rw [upd_ne (ne_of eb e (fun z => nomatch z))]
    exact eb
end GL
namespace DL
open PySem PySem.Spec PyProof.Rows L2
/-! dicts of the def's own, with tuples of whole numbers as keys (slots 4 and 8), one such tuple from a walk (slot 9), and a new one (slot 11) -/
structure S3 where
  lv : Option (Addr × HO) := none
  lt : Option (Addr × HO) := none
  ld : Option (List Int) := none
  on : Option (List Int) := none
def Own1 (b : Bg) (F H0 : Hp) (p : Addr) : Prop := F p = none ∧ H0 p = none ∧ ∀ c, b ≠ some (p, c)
structure Inv3 (b : Bg) (s : S3) (F H H0 : Hp) (σ : L2.St) : Prop where
  lv : ∀ p o, s.lv = some (p, o) → σ[4]? = some (some (.ref p)) ∧ Own1 b F H0 p ∧ H p = some o
  lt : ∀ p o, s.lt = some (p, o) → σ[8]? = some (some (.ref p)) ∧ Own1 b F H0 p ∧ H p = some o
  ne : ∀ p q o u, s.lv = some (p, o) → s.lt = some (q, u) → p ≠ q
  ld : ∀ l, s.ld = some l → ∃ q, σ[9]? = some (some (.ref q)) ∧ H q = some (.tup (l.map V.int))
  on : ∀ l, s.on = some l → ∃ q, σ[11]? = some (some (.ref q)) ∧ H q = some (.tup (l.map V.int))
structure P3 where
  nx : Env' → S3 → Prop
  rt : D → Prop := fun _ => False
section
variable {K : PySem.W.Frag} {b : Bg} {F H F' H' H0 : Hp} {σ : L2.St} {E : Env'} {s : S3} {t u : TS} {te ta tb : TE} {c : TT} {P : P3} {Φ : D → Prop}
theorem tup_nb (w : Wd K b F H) {q : Addr} {xs : List V} (h : H q = some (.tup xs)) : ∀ c, b ≠ some (q, c) := fun c e => by
  obtain ⟨_, _, _, e1, _⟩ := (w.bag q c e).bag
  rw [h] at e1; cases e1
theorem Own1.step {p : Addr} {o : HO} (h : Own1 b F H0 p) (hp : H p = some o) (st : Step b F H F' H') : Own1 b F' H0 p ∧ H' p = some o :=
  ⟨⟨st.out p h.1 (fun z => by rw [hp] at z; cases z), h.2.1, h.2.2⟩, st.keep p o h.2.2 hp⟩
theorem Inv3.step (i : Inv3 b s F H H0 σ) (w : Wd K b F H) (st : Step b F H F' H') : Inv3 b s F' H' H0 σ :=
  ⟨fun p o e => let ⟨h1, h2, h3⟩ := i.lv p o e; ⟨h1, h2.step h3 st⟩, fun p o e => let ⟨h1, h2, h3⟩ := i.lt p o e; ⟨h1, h2.step h3 st⟩, i.ne,
    fun l e => let ⟨q, h1, h2⟩ := i.ld l e; ⟨q, h1, st.keep q _ (tup_nb w h2) h2⟩, fun l e => let ⟨q, h1, h2⟩ := i.on l e; ⟨q, h1, st.keep q _ (tup_nb w h2) h2⟩⟩
def sl3 : List Nat := [4, 8, 9, 11]
theorem Inv3.set {j : Nat} {v : Option V} (i : Inv3 b s F H H0 σ) (hj : j ∉ sl3) : Inv3 b s F H H0 (σ.set j v) := by
  have n4 : j ≠ 4 := fun z => hj (by rw [z]; decide)
  have n8 : j ≠ 8 := fun z => hj (by rw [z]; decide)
  have n9 : j ≠ 9 := fun z => hj (by rw [z]; decide)
  have n11 : j ≠ 11 := fun z => hj (by rw [z]; decide)
  have g : ∀ k, j ≠ k → (σ.set j v)[k]? = σ[k]? := fun k h => List.getElem?_set_ne h
  refine ⟨?_, ?_, ?_, ?_, ?_⟩
  · rw [g 4 n4]; exact i.lv
  · rw [g 8 n8]; exact i.lt
  · exact i.ne
  · rw [g 9 n9]; exact i.ld
  · rw [g 11 n11]; exact i.on
/-- an own object elsewhere turns -/
theorem Inv3.turn {p : Addr} {o u : HO} (i : Inv3 b s F H H0 σ) (hp : H p = some u) (h1 : ∀ q a, s.lv = some (q, a) → q ≠ p) (h2 : ∀ q a, s.lt = some (q, a) → q ≠ p) (h3 : ∀ xs, u ≠ .tup xs) : Inv3 b s F (upd H p o) H0 σ := by
  have ne : ∀ q a, H q = some a → a ≠ u → q ≠ p := fun q a hq ha z => by
    subst z
    rw [hp] at hq
    exact ha (Option.some.inj hq).symm
  exact ⟨fun q a e => let ⟨g1, g2, g3⟩ := i.lv q a e; ⟨g1, g2, by rw [upd_ne (h1 q a e)]; exact g3⟩, fun q a e => let ⟨g1, g2, g3⟩ := i.lt q a e; ⟨g1, g2, by rw [upd_ne (h2 q a e)]; exact g3⟩, i.ne,
    fun l e => let ⟨q, g1, g2⟩ := i.ld l e; ⟨q, g1, by rw [upd_ne (ne q _ g2 fun z => h3 _ z.symm)]; exact g2⟩, fun l e => let ⟨q, g1, g2⟩ := i.on l e; ⟨q, g1, by rw [upd_ne (ne q _ g2 fun z => h3 _ z.symm)]; exact g2⟩⟩
variable (K b) in
structure Ok3 (F0 H0 Fb : Hp) (P : P3) (Dn : Ends) : Prop where
  nx : ∀ σ F H E s, Ex Fb F → Step b F0 H0 F H → Wd K b F H → EnvD K b H0 F H σ E → Inv3 b s F H H0 σ → P.nx E s → Dn.nx σ H
  rt : ∀ v F H x, Step b F0 H0 F H → Wd K b F H → Dv K b F v x → P.rt x → Dn.rt v H
theorem Ok3.up {F0 Fb Fc : Hp} {Dn : Ends} (k : Ok3 K b F0 H0 Fb P Dn) (x : Ex Fb Fc) : Ok3 K b F0 H0 Fc P Dn := ⟨fun σ F H E s y => k.nx σ F H E s (x.trans y), k.rt⟩
variable (K b) in
def wps3 (t : TS) (E : Env') (s : S3) (P : P3) : Prop := ∀ F0 H0 F H σ, Step b F0 H0 F H → Wd K b F H → EnvD K b H0 F H σ E → Inv3 b s F H H0 σ → ∀ Dn : Ends, Ok3 K b F0 H0 F P Dn → t Dn σ H
theorem wps3_seq (h : wps3 K b t E s { P with nx := fun E' s' => wps3 K b u E' s' P }) : wps3 K b (tSeq t u) E s P := fun F0 H0 F H σ st w e i Dn k =>
  h F0 H0 F H σ st w e i { Dn with nx := u Dn } ⟨fun σ F H E s y st w d i q => q F0 H0 F H σ st w d i Dn (k.up y), k.rt⟩
theorem wps3_next (h : P.nx E s) : wps3 K b tNext E s P := fun F0 H0 F H σ st w e i Dn k => k.nx σ F H E s (Ex.refl _) st w e i h
theorem wps3_ret (h : wpe K b te E P.rt) : wps3 K b (tRet te) E s P := fun F0 H0 F H σ st w e i Dn k =>
  h H0 F H σ w e Dn.rt fun v F' H' x s' w' d q => k.rt v F' H' x (st.trans s' w) w' d q
theorem wps3_asg {j : Nat} (hj : j ∉ sl3) (h : wpe K b te E fun x => P.nx (E.set j (.d x)) s) : wps3 K b (tAsg te (gName j)) E s P := fun F0 H0 F H σ st w e i Dn k =>
  h H0 F H σ w e _ fun v F' H' x s' w' d q => k.nx _ F' H' _ s s'.ex (st.trans s' w) w' ((e.step s').setD d) ((i.step w s').set hj) q
theorem wps3_asgl {j : Nat} (hj : j ∉ sl3) (h : wpl K b te E fun ds => P.nx (E.set j (.o ds)) s) : wps3 K b (tAsg te (gName j)) E s P := fun F0 H0 F H σ st w e i Dn k =>
  h H0 F H σ w e _ fun p vs F' H' ds s' w' n1 n2 n3 d q => k.nx _ F' H' _ s s'.ex (st.trans s' w) w' ((e.step s').setO (st.fresh w n1) n2 (w.nb n1) n3 d fun j es _ hj z => by
    obtain ⟨p', us, h1, _, _, _, h5, _⟩ := e.own j es hj
    rw [h1] at z
    cases z
    rw [n1] at h5; cases h5) ((i.step w s').set hj) q
theorem wps3_if (h : wpt K b c E fun r => if r = true then wps3 K b t E s P else wps3 K b u E s P) : wps3 K b (tIfS c t u) E s P := fun F0 H0 F H σ st w e i Dn k =>
  h H0 F H σ w e _ fun r F1 H1 s1 w1 q => by
    cases r with
    | true => exact q F0 H0 F1 H1 σ (st.trans s1 w) w1 (e.step s1) (i.step w s1) Dn (k.up s1.ex)
    | false => exact q F0 H0 F1 H1 σ (st.trans s1 w) w1 (e.step s1) (i.step w s1) Dn (k.up s1.ex)
theorem wps3_frz (i : Nat) {ds : List D} (hi : E[i]? = some (.o ds)) (h : wps3 K b t (E.set i (.d (.lst ds))) s P) (hv : ∀ q a, s.lv = some (q, a) → ∀ xs, a ≠ .lst xs) (ht : ∀ q a, s.lt = some (q, a) → ∀ xs, a ≠ .lst xs) : wps3 K b t E s P := fun F0 H0 F H σ st w e iv Dn k => by
  obtain ⟨p, us, h1, h2, h3, h4, h5, h6⟩ := e.own i ds hi
  have ne : ∀ q a, H q = some a → (∀ xs, a ≠ .lst xs) → q ≠ p := fun q a hq ha z => by
    subst z
    rw [h5] at hq
    exact ha _ (Option.some.inj hq).symm
  refine h F0 H0 (upd F p (.lst us)) H σ ⟨st.ex.trans (Ex.new h3), st.keep, fun a e1 e2 => ?_⟩ (w.frz h3 h5 h4) (e.frz hi h1 h3 h6) ⟨fun q o e => ?_, fun q o e => ?_, iv.ne, iv.ld, iv.on⟩ Dn (k.up (Ex.new h3))
  · rw [upd_ne (show a ≠ p from fun z => e2 (by rw [z]; exact h2))]
    exact st.out a e1 e2
  · obtain ⟨g1, ⟨g2, g3, g4⟩, g5⟩ := iv.lv q o e
    exact ⟨g1, ⟨by rw [upd_ne (ne q o g5 (hv q o e))]; exact g2, g3, g4⟩, g5⟩
  · obtain ⟨g1, ⟨g2, g3, g4⟩, g5⟩ := iv.lt q o e
    exact ⟨g1, ⟨by rw [upd_ne (ne q o g5 (ht q o e))]; exact g2, g3, g4⟩, g5⟩
variable (K b) in
def wpi3 (t : TI) (E : Env') (s : S3) (Φ : List D → Prop) : Prop := ∀ H0 F H σ, Wd K b F H → EnvD K b H0 F H σ E → Inv3 b s F H H0 σ →
  ∀ R : It → Hp → Prop, (∀ J F' H' ds, Step b F H F' H' → Wd K b F' H' → ItOk K b F' J ds → Φ ds → R J H') → t σ H R
theorem wpi3_of {wi : TI} {Φ : List D → Prop} (h : wpi K b wi E Φ) : wpi3 K b wi E s Φ := fun H0 F H σ w e i R k => h H0 F H σ w e R k
theorem wps3_for {wi : TI} {j : Nat} (hj : j ∉ sl3) (h : wpi3 K b wi E s fun ds => ∃ I : Nat → Env' → S3 → Prop, I 0 E s ∧ (∀ (n : Nat) d E' s', ds[n]? = some d → I n E' s' → wps3 K b t (E'.set j (.d d)) s' { nx := I (n + 1), rt := P.rt }) ∧ ∀ E' s', I ds.length E' s' → P.nx E' s') :
    wps3 K b (tFor wi (gName j) t) E s P := fun F0 H0 F H σ st w e i Dn k =>
  h H0 F H σ w e i _ fun J F1 H1 ds s1 w1 it q => by
    obtain ⟨I, i0, turn, fin⟩ := q
    refine ⟨fun n m σ H => m = ds.length - n ∧ n ≤ ds.length ∧ ∃ F E s, Step b F0 H0 F H ∧ Ex F1 F ∧ Wd K b F H ∧ EnvD K b H0 F H σ E ∧ Inv3 b s F H H0 σ ∧ I n E s,
      ⟨ds.length, by omega, Nat.zero_le _, F1, E, s, st.trans s1 w, Ex.refl _, w1, e.step s1, i.step w s1, i0⟩, ?_⟩
    rintro n m σ2 H2 ⟨rfl, hn, F2, E2, st2, s2, x2, w2, e2, i2, q2⟩
    by_cases hlt : n < ds.length
    · refine .inr ⟨it.go n F2 H2 x2 w2 hlt, fun σ' H' => ∃ F' E' s', Step b F0 H0 F' H' ∧ Ex F1 F' ∧ Wd K b F' H' ∧ EnvD K b H0 F' H' σ' E' ∧ Inv3 b s' F' H' H0 σ' ∧ I (n + 1) E' s', fun σ' H' z => ⟨ds.length - (n + 1), by omega, rfl, hlt, z⟩, fun x H3 hy => ?_⟩
      obtain ⟨F3, d, s3, w3, hd, hv⟩ := it.yld n F2 H2 x H3 x2 w2 hlt hy
      exact turn n d E2 st2 hd q2 F0 H0 F3 H3 _ (s2.trans s3 w2) w3 ((e2.step s3).setD hv) ((i2.step w2 s3).set hj) _ ⟨fun σ F H E s y st w e i q => ⟨F, E, s, st, (x2.trans s3.ex).trans y, w, e, i, q⟩, k.rt⟩
    · have hn' : n = ds.length := by omega
      subst hn'
      exact .inl ⟨it.stop _ F2 H2 x2 w2 (Nat.le_refl _), k.nx σ2 F2 H2 E2 st2 (s1.ex.trans x2) s2 w2 e2 i2 (fin E2 st2 q2)⟩
end
end DL

namespace DL
open PySem PySem.Spec PyProof.Rows L2
section
variable {K : PySem.W.Frag} {b : Bg} {F H F' H' H0 : Hp} {σ : L2.St} {E : Env'} {s : S3} {t u : TS} {te ta tb : TE} {c : TT} {P : P3} {Φ : D → Prop}
/-! rules of the data layer -/
theorem kSlA {X : Cx} (h : X.K = K := by rfl) : SlR X (rSlA K) := h ▸ sl_tupA
theorem kSrtRev {X : Cx} (h : X.K = K := by rfl) : CallRK X (.builtin "sorted") [Str.ofString "reverse"] (rSortedKw K true [.bl true]) := h ▸ cr_sortedRev
theorem wpe_slA {tl th : TO} (h : wpe K b te E fun x => wpo K b tl E fun lo => wpo K b th E fun hi => ∃ ds, x = .tup ds ∧ Φ (.tup (cutD ds lo hi))) : wpe K b (tSl (rSlA K) te tl th) E Φ := fun H0 F H σ w e Q k =>
  h H0 F H σ w e _ fun v F1 H1 x s1 w1 d1 p1 => p1 H0 F1 H1 σ w1 (e.step s1) _ fun lo F2 H2 s2 w2 p2 => p2 H0 F2 H2 σ w2 ((e.step s1).step s2) _ fun hi F3 H3 s3 w3 p3 => by
    obtain ⟨ds, rfl, q⟩ := p3
    have d1' := d1
    cases d1 with
    | tup st a =>
      have s13 := (s1.trans s2 w1).trans s3 w2
      have x13 := s2.ex.trans s3.ex
      refine ⟨_, _, rfl, exT (x13.trans w3.ex) st, fun hw => ?_, fun hw p hp => ?_⟩
      · have e1 : cutD ds lo hi = ds := by
          rw [a.len] at hw
          unfold cutD
          rw [hw.1, hw.2, List.drop_zero, Nat.sub_zero, List.take_length]
        rw [e1] at q
        exact k _ _ _ _ s13 w3 (d1'.up x13) q
      · obtain ⟨w4, s4⟩ := w3.newD (o := .tup _) hp
        exact k _ _ _ _ (s13.trans s4 w3) w4 (.tup (.inl (.inl upd_same)) (dva_cut (a.up (x13.trans s4.ex)))) q
theorem wpl_srtRev {Φ : List D → Prop} (h : wpe K b te E fun x => ∃ ns : List Int, x = .lst (ns.map D.int) ∧ Φ ((dsort ns).map D.int)) : wpl K b (tCKw (rSortedKw K true [.bl true]) (tCons te tNil) (tCons (tC (.bl true)) tNil)) E Φ := fun H0 F H σ w e Q k =>
  h H0 F H σ w e _ fun v F1 H1 x s1 w1 d1 p1 => by
    obtain ⟨ns, rfl, q⟩ := p1
    cases d1 with
    | lst st a =>
      have e1 := a.ints
      subst e1
      refine ⟨_, ns, rfl, rfl, SqL.of (w1.ex _ _ st), fun ns' p hp ho hn => ?_⟩
      have e2 : ns' = dsort ns := dsort_of hp (List.Pairwise.imp (fun h => h) ho)
      subst e2
      obtain ⟨w2, s2⟩ := w1.newO (o := .lst ((dsort ns).map V.int)) hn
      exact k p _ F1 _ _ (s1.trans s2 w1) w2 (s1.fresh w1 hn) (w1.outN hn) upd_same (DvA.of_ints _) q
theorem EnvD.heap (e : EnvD K b H0 F H σ E) (ho : noO E = true) : EnvD K b H0 F H' σ E :=
  ⟨e.len, e.dat, fun j ds h => absurd h (ho_of ho j ds), fun j k ds es r h => absurd h (ho_of ho j ds)⟩
/-! a tuple from a walk, lent as data -/
theorem lendQ {l : List Int} {i : Nat} {q : Addr} (w : Wd K b F H) (e : EnvD K b H0 F H σ E) (ho : noO E = true) (hs : σ[i]? = some (some (.ref q))) (hq : H q = some (.tup (l.map V.int))) :
    ∃ G, Wd K b G H ∧ EnvD K b H0 G H σ (E.set i (.d (.tup (l.map D.int)))) ∧ Ex F G ∧ ∀ G' H', Step b G H G' H' → Wd K b G' H' → ∃ F', Step b F H F' H' ∧ Wd K b F' H' ∧ Ex F' G' ∧ ∀ a, a ≠ q → F' a = G' a := by
  have es : σ.set i (some (.ref q)) = σ := by
    refine List.ext_getElem? fun j => ?_
    by_cases hj : i = j
    · subst hj
      rw [List.getElem?_set_self (List.getElem?_eq_some_iff.mp hs).1, hs]
    · rw [List.getElem?_set_ne hj]
  cases hF : F q with
  | some o =>
    have : o = .tup (l.map V.int) := Option.some.inj ((w.ex q o hF).symm.trans hq)
    subst this
    have e2 := e.setD (i := i) (v := .ref q) (x := .tup (l.map D.int)) (.tup (.inl (.inl hF)) (DvA.of_ints l))
    rw [es] at e2
    exact ⟨F, w, e2, Ex.refl _, fun G' H' st w' => ⟨G', st, w', Ex.refl _, fun _ _ => rfl⟩⟩
  | none =>
    have nb := tup_nb w hq
    have wG := w.frz hF hq nb
    have eG : EnvD K b H0 (upd F q (.tup (l.map V.int))) H σ E := ⟨e.len, fun j x h => let ⟨v, h1, h2⟩ := e.dat j x h; ⟨v, h1, h2.up (Ex.new hF)⟩, fun j ds h => absurd h (ho_of ho j ds), fun j k ds es r h => absurd h (ho_of ho j ds)⟩
    have e2 := eG.setD (i := i) (v := .ref q) (x := .tup (l.map D.int)) (.tup (.inl (.inl upd_same)) (DvA.of_ints l))
    rw [es] at e2
    classical
    refine ⟨_, wG, e2, Ex.new hF, fun G' H' st w' => ⟨fun a => if a = q then none else G' a, ⟨fun a o h => ?_, st.keep, fun a h1 h2 => ?_⟩, ⟨fun a o h => ?_, fun a c h => ?_⟩, fun a o h => ?_, fun a ha => ?_⟩⟩
    · have ne : a ≠ q := fun z => by rw [z, hF] at h; cases h
      show (if a = q then none else G' a) = some o
      rw [if_neg ne]
      exact st.ex a o (by rw [upd_ne ne]; exact h)
    · show (if a = q then none else G' a) = none
      by_cases z : a = q
      · rw [if_pos z]
      · rw [if_neg z]; exact st.out a (by rw [upd_ne z]; exact h1) h2
    · have h' : (if a = q then none else G' a) = some o := h
      by_cases z : a = q
      · rw [if_pos z] at h'; cases h'
      · rw [if_neg z] at h'; exact w'.ex a o h'
    · have B := w'.bag a c h
      have A := w.bag a c h
      obtain ⟨ns, c1, c2⟩ := A.cell
      obtain ⟨ns', c1', c2'⟩ := B.cell
      refine ⟨?_, B.bag, ⟨ns, ?_, c2⟩⟩
      · show (if a = q then none else G' a) = none
        by_cases z : a = q
        · rw [if_pos z]
        · rw [if_neg z]; exact B.out
      · refine exL (fun a o h => ?_) c1
        have ne : a ≠ q := fun z => by rw [z, hF] at h; cases h
        show (if a = q then none else G' a) = some o
        rw [if_neg ne]
        exact st.ex a o (by rw [upd_ne ne]; exact h)
    · have h' : (if a = q then none else G' a) = some o := h
      by_cases z : a = q
      · rw [if_pos z] at h'; cases h'
      · rw [if_neg z] at h'; exact h'
    · show (if a = q then none else G' a) = G' a
      rw [if_neg ha]
/-- range(len(load) + 1) and the like -/
theorem wpi3_rng {ld : List Int} (hl : s.ld = some ld) (ho : noO E = true) {Φ : List D → Prop} (h : wpe K b te (E.set 9 (.d (.tup (ld.map D.int)))) fun x => ∃ n : Nat, x = .int (n : Int) ∧ n ≤ 100000 ∧ Φ (rangeD 0 n)) : wpi3 K b (iRng1 (tCons te tNil)) E s Φ := fun H0 F H σ w e i R k => by
  obtain ⟨q, h1, h2⟩ := i.ld ld hl
  obtain ⟨G, wG, eG, _, back⟩ := lendQ w e ho h1 h2
  refine h H0 G H σ wG eG _ fun v G' H' x st w' d p => ?_
  obtain ⟨n, rfl, hn, q⟩ := p
  cases d
  obtain ⟨F', sF, wF, _, _⟩ := back G' H' st w'
  have := k (Itr 0 n) F' H' _ sF wF (itr 0 n) q
  exact ⟨(n : Int), rfl, by omega, by omega, by rw [Int.toNat_natCast]; exact this⟩
theorem Inv3.set11 {r : Addr} {l : List Int} (i : Inv3 b s F H H0 σ) (hl : 11 < σ.length) (hr : H r = some (.tup (l.map V.int))) : Inv3 b { s with on := some l } F H H0 (σ.set 11 (some (.ref r))) := by
  have g : ∀ k, 11 ≠ k → (σ.set 11 (some (.ref r)))[k]? = σ[k]? := fun k h => List.getElem?_set_ne h
  refine ⟨?_, ?_, i.ne, ?_, fun l' e => ?_⟩
  · rw [g 4 (by decide)]; exact i.lv
  · rw [g 8 (by decide)]; exact i.lt
  · rw [g 9 (by decide)]; exact i.ld
  · have : l' = l := (Option.some.inj e).symm
    subst this
    exact ⟨r, List.getElem?_set_self hl, hr⟩
/-- one = tuple(..), a new tuple of whole numbers -/
theorem wps3_one {ld : List Int} (hl : s.ld = some ld) (ho : noO E = true) (hE : 11 < E.length) (h : wpl K b te (E.set 9 (.d (.tup (ld.map D.int)))) fun ds => ∃ l : List Int, ds = l.map D.int ∧ P.nx (E.set 11 (.d (.tup (l.map D.int)))) { s with on := some l }) :
    wps3 K b (tAsg (tCB (rTuple K) (tCons te tNil)) (gName 11)) E s P := fun F0 H0 F H σ st w e i Dn k => by
  obtain ⟨q, h1, h2⟩ := i.ld ld hl
  obtain ⟨G, wG, eG, _, back⟩ := lendQ w e ho h1 h2
  refine h H0 G H σ wG eG _ fun p vs G' H' ds sG w' n1 n2 n3 d pq => ?_
  obtain ⟨l, rfl, hp⟩ := pq
  have ev := d.ints
  subst ev
  obtain ⟨F', sF, wF, _, _⟩ := back G' H' sG w'
  refine ⟨p, _, rfl, .inl ⟨SqL.of n3, fun r hr => ?_⟩⟩
  obtain ⟨w2, s2⟩ := wF.newD (o := .tup (l.map V.int)) hr
  have sT := sF.trans s2 wF
  refine k.nx _ _ _ _ _ sT.ex (st.trans sT w) w2 ((e.step sT).setD (.tup (.inl (.inl upd_same)) (DvA.of_ints l))) ?_ hp
  exact (i.step w sT).set11 (by rw [e.len]; exact hE) upd_same
/-! dicts -/
def ent (l : List Int) : List Key × V := (l.map Sum.inl, V.bl true)
def dTo (ks : List (List Int)) : HO := .dT (ks.map ent)
def insK (ks : List (List Int)) (l : List Int) : List (List Int) := if l ∈ ks then ks else ks ++ [l]
theorem inl_inj {l m : List Int} (h : (l.map Sum.inl : List Key) = m.map Sum.inl) : l = m := List.map_inj_right (fun _ _ z => Sum.inl.inj z) |>.mp h
theorem putK_ent (ks : List (List Int)) (l : List Int) : putK (ks.map ent) (l.map Sum.inl : List Key) (V.bl true) = (insK ks l).map ent := by
  unfold putK insK
  by_cases h : l ∈ ks
  · have e1 : ((ks.map ent).any fun kv => decide (kv.1 = (l.map Sum.inl : List Key))) = true := by
      rw [List.any_eq_true]
      exact ⟨ent l, List.mem_map.mpr ⟨l, h, rfl⟩, decide_eq_true rfl⟩
    rw [if_pos e1, if_pos h, List.map_map]
    refine List.map_congr_left fun m hm => ?_
    show (if (m.map Sum.inl : List Key) = l.map Sum.inl then ((m.map Sum.inl : List Key), V.bl true) else ent m) = ent m
    split <;> rfl
  · have e1 : ((ks.map ent).any fun kv => decide (kv.1 = (l.map Sum.inl : List Key))) = false := by
      rw [List.any_eq_false]
      intro kv hkv
      obtain ⟨m, hm, rfl⟩ := List.mem_map.mp hkv
      rw [decide_eq_true_iff]
      intro z
      exact h (inl_inj z ▸ hm)
    rw [if_neg (by rw [e1]; exact Bool.false_ne_true), if_neg h, List.map_append]; rfl
theorem insK_mem {ks : List (List Int)} {l m : List Int} : m ∈ insK ks l ↔ m ∈ ks ∨ m = l := by
  unfold insK
  split
  · rename_i h
    exact ⟨.inl, fun z => z.elim id fun z => z ▸ h⟩
  · rw [List.mem_append, List.mem_singleton]
theorem insK_len (ks : List (List Int)) (l : List Int) : (insK ks l).length ≤ ks.length + 1 := by
  unfold insK
  split
  · omega
  · rw [List.length_append]; exact Nat.le_refl _
/-- later[one] = True -/
theorem wps3_put {p : Addr} {ks : List (List Int)} {l : List Int} (hp : s.lt = some (p, dTo ks)) (hon : s.on = some l) (ho : noO E = true) (hz : ks.length < 100000) (h : P.nx E { s with lt := some (p, dTo (insK ks l)) }) :
    wps3 K b (tAsg (tC (.bl true)) (gSub (tVar 8) (tVar 11) rSetD)) E s P := fun F0 H0 F H σ st w e i Dn k => by
  obtain ⟨g1, ⟨g2, g3, g4⟩, g5⟩ := i.lt p _ hp
  obtain ⟨r, r1, r2⟩ := i.on l hon
  have hk : H r = some (.tup ((l.map Sum.inl : List Key).map kV)) := by rw [r2, List.map_map]; rfl
  refine ⟨_, g1, _, r1, ?_⟩
  refine (⟨p, _, rfl, DPut.t g5 hk (by rw [List.length_map, sizeLine_eq]; omega), ?_⟩ : ∃ a H', V.ref p = .ref a ∧ DPut H a (.ref r) (.bl true) H' ∧ Dn.nx σ H')
  rw [putK_ent]
  refine k.nx σ F _ E _ (Ex.refl _) (st.turn g3) (w.turn g2 g4) (e.heap ho) ⟨fun q o z => ?_, fun q o z => ?_, fun q r o u z1 z2 => ?_, fun l' z => ?_, fun l' z => ?_⟩ h
  · obtain ⟨a1, a2, a3⟩ := i.lv q o z
    exact ⟨a1, a2, by rw [upd_ne (i.ne q p o _ z hp)]; exact a3⟩
  · have : (q, o) = (p, dTo (insK ks l)) := (Option.some.inj z).symm
    cases this
    exact ⟨g1, ⟨g2, g3, g4⟩, upd_same⟩
  · have : (r, u) = (p, dTo (insK ks l)) := (Option.some.inj z2).symm
    cases this
    exact i.ne q p o _ z1 hp
  · obtain ⟨a, a1, a2⟩ := i.ld l' z
    exact ⟨a, a1, by rw [upd_ne (fun y => by rw [y, g5] at a2; cases a2)]; exact a2⟩
  · obtain ⟨a, a1, a2⟩ := i.on l' z
    exact ⟨a, a1, by rw [upd_ne (fun y => by rw [y, g5] at a2; cases a2)]; exact a2⟩
/-- later = {} -/
theorem wps3_new8 (ho : noO E = true) (hE : 8 < E.length) (h : ∀ p, P.nx (E.set 8 .u) { s with lt := some (p, dTo []) }) : wps3 K b (tAsg tDNewT (gName 8)) E s P := fun F0 H0 F H σ st w e i Dn k => by
  intro p hp
  obtain ⟨w2, s2⟩ := w.newO (o := dTo []) hp
  have i2 := i.step w s2
  have g : ∀ k, 8 ≠ k → (σ.set 8 (some (.ref p)))[k]? = σ[k]? := fun k h => List.getElem?_set_ne h
  refine k.nx _ F _ _ _ s2.ex (st.trans s2 w) w2 ((e.step s2).setV) ⟨?_, fun q o z => ?_, fun q r o u z1 z2 => ?_, ?_, ?_⟩ (h p)
  · rw [g 4 (by decide)]; exact i2.lv
  · have : (q, o) = (p, dTo []) := (Option.some.inj z).symm
    cases this
    exact ⟨List.getElem?_set_self (by rw [e.len]; exact hE), ⟨w.outN hp, st.fresh w hp, w.nb hp⟩, upd_same⟩
  · have : (r, u) = (p, dTo []) := (Option.some.inj z2).symm
    cases this
    obtain ⟨_, _, a3⟩ := i.lv q o z1
    intro y
    subst y
    rw [hp] at a3; cases a3
  · rw [g 9 (by decide)]; exact i2.ld
  · rw [g 11 (by decide)]; exact i2.on
/-- level = later -/
theorem wps3_mv {p : Addr} {o : HO} (ht : s.lt = some (p, o)) (hE : 4 < E.length) (h : P.nx (E.set 4 .u) { s with lv := some (p, o), lt := none }) : wps3 K b (tAsg (tVar 8) (gName 4)) E s P := fun F0 H0 F H σ st w e i Dn k => by
  obtain ⟨g1, g2, g3⟩ := i.lt p o ht
  have g : ∀ k, 4 ≠ k → (σ.set 4 (some (.ref p)))[k]? = σ[k]? := fun k h => List.getElem?_set_ne h
  refine ⟨_, g1, k.nx _ F H _ _ (Ex.refl _) st w e.setV ⟨fun q o' z => ?_, (fun _ _ z => by cases z), (fun _ _ _ _ _ z => by cases z), ?_, ?_⟩ h⟩
  · have : (q, o') = (p, o) := (Option.some.inj z).symm
    cases this
    exact ⟨List.getElem?_set_self (by rw [e.len]; exact hE), g2, g3⟩
  · rw [g 9 (by decide)]; exact i.ld
  · rw [g 11 (by decide)]; exact i.on
/-- for load in level: .. -/
theorem wps3_walk {p : Addr} {ks : List (List Int)} (hp : s.lv = some (p, dTo ks)) (ho : noO E = true) (hE : 9 < E.length) (h : ∀ od, ∃ I : Nat → Env' → S3 → Prop, I 0 E { s with lv := some (p, .frz od (dTo ks)) } ∧ (∀ n E' s', I n E' s' → s'.lv = some (p, .frz od (dTo ks)) ∧ 9 < E'.length) ∧
      (∀ n l E' s', ks[n]? = some l → I n E' s' → wps3 K b t (E'.set 9 .u) { s' with ld := some l } { nx := fun E2 s2 => I (n + 1) E2 s2 }) ∧
      ∀ E' s', I ks.length E' s' → noO E' = true ∧ P.nx E' { s' with lv := some (p, dTo ks) }) :
    wps3 K b (tLock (tFor (iKeys (tVar 4)) (gName 9) t)) E s P := fun F0 H0 F H σ st w e i Dn k => by
  obtain ⟨g1, ⟨g2, g3, g4⟩, g5⟩ := i.lv p _ hp
  refine ⟨p, _, g5, True.intro, fun od => ?_⟩
  obtain ⟨I, i0, hI, turn, fin⟩ := h od
  refine ⟨_, g1, p, od, rfl, .inr ⟨_, upd_same, ?_⟩⟩
  refine ⟨fun n m σ H => m = ks.length - n ∧ n ≤ ks.length ∧ ∃ F1 E1 s1, Step b F0 H0 F1 H ∧ Ex F F1 ∧ Wd K b F1 H ∧ EnvD K b H0 F1 H σ E1 ∧ Inv3 b s1 F1 H H0 σ ∧ I n E1 s1,
    ⟨ks.length, by omega, Nat.zero_le _, F, E, _, st.turn g3, Ex.refl _, w.turn g2 g4, e.heap ho, ⟨fun q o z => ?_, fun q o z => ?_, fun q r o u z1 z2 => ?_, fun l z => ?_, fun l z => ?_⟩, i0⟩, ?_⟩
  · have : (q, o) = (p, HO.frz od (dTo ks)) := (Option.some.inj z).symm
    cases this
    exact ⟨g1, ⟨g2, g3, g4⟩, upd_same⟩
  · obtain ⟨a1, a2, a3⟩ := i.lt q o z
    exact ⟨a1, a2, by rw [upd_ne (i.ne p q _ o hp z).symm]; exact a3⟩
  · have : (q, o) = (p, HO.frz od (dTo ks)) := (Option.some.inj z1).symm
    cases this
    exact i.ne p r _ u hp z2
  · obtain ⟨a, a1, a2⟩ := i.ld l z
    exact ⟨a, a1, by rw [upd_ne (fun y => by rw [y, g5] at a2; cases a2)]; exact a2⟩
  · obtain ⟨a, a1, a2⟩ := i.on l z
    exact ⟨a, a1, by rw [upd_ne (fun y => by rw [y, g5] at a2; cases a2)]; exact a2⟩
  · rintro n m σ2 H2 ⟨rfl, hn, F2, E2, st2, s2, x2, w2, e2, i2, q2⟩
    have l2 := (hI n E2 st2 q2).1
    obtain ⟨b1, ⟨b2, b3, b4⟩, b5⟩ := i2.lv p _ l2
    by_cases hlt : n < ks.length
    · refine .inr ⟨⟨b5, by rw [List.length_map]; exact hlt⟩, fun σ' H' => ∃ F1 E1 s1, Step b F0 H0 F1 H' ∧ Ex F F1 ∧ Wd K b F1 H' ∧ EnvD K b H0 F1 H' σ' E1 ∧ Inv3 b s1 F1 H' H0 σ' ∧ I (n + 1) E1 s1, fun σ' H' z => ⟨ks.length - (n + 1), by omega, rfl, hlt, z⟩, fun x H3 hy => ?_⟩
      obtain ⟨rfl, kk, vv, q, k1, rfl, k3⟩ := hy
      have el : ks[n]? = some ks[n] := List.getElem?_eq_getElem hlt
      generalize ks[n] = l at el
      rw [List.getElem?_map, el] at k1
      cases k1
      have k3' : H3 q = some (.tup (l.map V.int)) := by
        have : ((ent l).1.map kV) = l.map V.int := by unfold ent; rw [List.map_map]; rfl
        rw [← this]; exact k3
      have g : ∀ k, 9 ≠ k → (σ2.set 9 (some (.ref q)))[k]? = σ2[k]? := fun k h => List.getElem?_set_ne h
      have hlen : 9 < σ2.length := by rw [e2.len]; exact (hI n E2 st2 q2).2
      refine turn n l E2 st2 el q2 F0 H0 F2 H3 (σ2.set 9 (some (.ref q))) s2 w2 e2.setV ⟨?_, ?_, i2.ne, fun l' z => ?_, ?_⟩ _ ⟨fun σ F H E s y st w e i q => ⟨F, E, s, st, x2.trans y, w, e, i, q⟩, fun _ _ _ _ _ _ _ z => z.elim⟩
      · rw [g 4 (by decide)]; exact i2.lv
      · rw [g 8 (by decide)]; exact i2.lt
      · have : l' = l := (Option.some.inj z).symm
        subst this
        exact ⟨q, List.getElem?_set_self hlen, k3'⟩
      · rw [g 11 (by decide)]; exact i2.on
    · have hn' : n = ks.length := by omega
      subst hn'
      obtain ⟨f2, f3⟩ := fin E2 st2 q2
      refine .inl ⟨⟨b5, by rw [List.length_map]; exact Nat.le_refl _⟩, b5, ?_⟩
      refine k.nx σ2 F2 _ E2 _ x2 (s2.turn b3) (w2.turn b2 b4) (e2.heap f2) ⟨fun q o z => ?_, fun q o z => ?_, fun q r o u z1 z2 => ?_, fun l z => ?_, fun l z => ?_⟩ f3
      · have : (q, o) = (p, dTo ks) := (Option.some.inj z).symm
        cases this
        exact ⟨b1, ⟨b2, b3, b4⟩, upd_same⟩
      · obtain ⟨a1, a2, a3⟩ := i2.lt q o z
        exact ⟨a1, a2, by rw [upd_ne (i2.ne p q _ o l2 z).symm]; exact a3⟩
      · have : (q, o) = (p, dTo ks) := (Option.some.inj z1).symm
        cases this
        exact i2.ne p r _ u l2 z2
      · obtain ⟨a, a1, a2⟩ := i2.ld l z
        exact ⟨a, a1, by rw [upd_ne (fun y => by rw [y, b5] at a2; cases a2)]; exact a2⟩
      · obtain ⟨a, a1, a2⟩ := i2.on l z
        exact ⟨a, a1, by rw [upd_ne (fun y => by rw [y, b5] at a2; cases a2)]; exact a2⟩
end
end DL

namespace GL
open PySem PySem.Spec PyProof.Rows L2
section
variable {prog : Program} {w : World} {A : Around} {E : Value → Shared → Prop} {s : Shared}
/-- the items of a tuple, gathered by sorted -/
theorem collect_tup {l : Addr} {vs : List Value} {Q : List Value → Shared → Prop} (hl : IsTup s.heap l vs.toArray) (hsz : vs.length ≤ sizeLine)
    (h : Q vs { s with heap := (s.heap.push (seqObj "list" #[] 0)).update s.heap.objs.size (Obj.mapSeq (· ++ vs.toArray)) }) : wpAny (model prog w) A (collect (.ref l)) Q E s := by
  obtain ⟨o, ho, hc, n, hd⟩ := id hl
  have ho' : (s.heap.push (seqObj "list" #[] 0)).get? l = some o := Heap.get?_push_of_some _ ho
  have hn : (s.heap.push (seqObj "list" #[] 0)).get? s.heap.objs.size = some (seqObj "list" #[] 0) := Heap.get?_push_size _ rfl
  unfold collect
  refine wpAny_bind (wpAny_runValue (codeAny_builtin entry_proto_collect' ?_))
  refine wpAny_bind (wpAny_newList (wpAny_pure ⟨Code.quiet_builtin _ (by decide +kernel), codeAny_builtin entry_list_iadd' ?_⟩))
  show wpAny _ _ (Builtin.List.listExtendWith (.ref s.heap.objs.size) (.ref l) (.ref s.heap.objs.size)) _ _ { s with heap := s.heap.push (seqObj "list" #[] 0) }
  unfold Builtin.List.listExtendWith
  refine wpAny_bind (wpAny_typeOf (T := "tuple") ⟨o, ho', hc⟩ ?_)
  have ht : (Value.type "tuple" == Value.type "tuple") = true := by rfl
  rw [if_pos (by rw [ht]; simp)]
  refine wpAny_bind (listItems_at ho' hd ?_)
  refine wpAny_bind (listItems_at (xs := #[]) (n := 0) hn rfl ?_)
  rw [if_neg (by simp)]
  refine wpAny_bind (listUpdate_at (xs := #[]) (n := 0) hn rfl ?_ (Nat.zero_le _) (by show (#[] ++ vs.toArray).size ≤ sizeLine + 1; simp only [Array.size_append, List.size_toArray, List.length_nil]; omega))
  refine wpAny_pure ?_
  refine wpAny_bind (wpAny_load (get?_update_seq hn _) ?_)
  show wpAny _ _ (pure ((#[] : Array Value) ++ vs.toArray).toList) Q E _
  rw [show ((#[] : Array Value) ++ vs.toArray).toList = vs by simp]
  exact wpAny_pure h
open SrtO SrtR in
theorem sorted_tupR {l : Addr} {vs : List Value} {ltv : Value → Value → Bool} {Q : Value → Shared → Prop} (O : Swo ltv) (hl : IsTup s.heap l vs.toArray) (hz : vs.length ≤ sizeLine)
    (hS : 2 ≤ vs.length → ∀ (h₁ : Heap) (a : Addr), SortableO prog w A.in1.in1 { s with heap := h₁ } a vs ltv)
    (h : ∀ out : List Value, Srtd ltv out → Stb ltv out vs.reverse → Q (.ref (s.heap.objs.size + 1)) { s with heap := sortedAll s.heap vs out.toArray.reverse }) :
    wpAny (model prog w) A (call (.builtin "sorted") [.ref l] [(Str.ofString "reverse", .bool true)]) Q E s := by
  refine call_function_entry_kw kind_sorted plain_sorted entry_sorted (args_sorted_rev _ _) ?_
  unfold Builtin.«sorted»
  refine wpAny_bind (m := checkCount "sorted" 1 1 _) (wpAny_pure ?_)
  refine wpAny_bind (collect_tup hl hz ?_)
  refine wpAny_bind (wpAny_newList ?_ hz)
  have hsz : ((s.heap.push (seqObj "list" #[] 0)).update s.heap.objs.size (Obj.mapSeq (· ++ vs.toArray))).objs.size = s.heap.objs.size + 1 := by
    rw [Heap.size_update, size_push']
  have hoL : (((s.heap.push (seqObj "list" #[] 0)).update s.heap.objs.size (Obj.mapSeq (· ++ vs.toArray))).push (seqObj "list" vs.toArray 0)).get? (s.heap.objs.size + 1) = some (seqObj "list" vs.toArray 0) := by
    rw [← hsz]; exact Heap.get?_push_size _ rfl
  show wpAny _ _ _ _ _ { s with heap := ((s.heap.push (seqObj "list" #[] 0)).update s.heap.objs.size (Obj.mapSeq (· ++ vs.toArray))).push (seqObj "list" vs.toArray 0) }
  rw [hsz]
  refine wpAny_bind (wpAny_holding (wpAny_call_entry_kw slot_list_sort ⟨_, hoL, rfl⟩ entry_list_sort ?_ (args_list_sort_rev _ _)))
  refine list_sort_ordR (b := true) O hoL hz (fun h2 => hS h2 _ _) fun out hs hb => ⟨_, rfl, ?_⟩
  exact wpAny_pure ⟨_, rfl, h out hs hb⟩
end
def rSortedRT (K : PySem.W.Frag) : List V → List V → Hp → VK → Prop := fun vs zs H Q => ∃ (a : Addr) (ns : List Int), vs = [V.ref a] ∧ zs = [.bl true] ∧ SqT K H a (ns.map V.int) ∧
  ∀ (ns' : List Int) (p : Addr), ns'.Perm ns → ns'.Pairwise (· ≥ ·) → H p = none → Q (.ref p) (upd H p (.lst (ns'.map V.int)))
theorem cr_sortedRT {X : Cx} : CallRK X (.builtin "sorted") [Str.ofString "reverse"] (rSortedRT X.K) := by
  intro pins s σ H vs zs us ws Q I r rz h
  obtain ⟨a, ns, rfl, rfl, hs, q⟩ := h
  obtain rfl := Vals.ref1 r
  obtain ⟨w1, rfl, e1⟩ := vals1 rz
  obtain rfl : w1 = Value.bool true := e1
  obtain ⟨its, rv, hl, hz⟩ := I.tuple hs
  have hi := rv.ints
  refine sorted_tupR SrtO.swo_int hl (by rw [← rv.length]; exact hz) (fun h2 h₁ a' => SrtO.ints_sortable hi h2) fun out h1 h2 => ?_
  obtain ⟨ns', k1, k2, k3⟩ := SrtR.ints_outR (b := true) hi h1 h2
  obtain ⟨ep, he'⟩ := PyProof.Rows.sortedAll_at s.heap its (out.toArray.reverse)
  have hlen : (ns'.map V.int).length ≤ sizeLine := by
    rw [List.length_map, k2.length_eq]
    rw [List.length_map] at hz
    exact hz
  have e0 : ((out.toArray.reverse).toList).toArray = out.toArray.reverse := by rw [Array.toArray_toList]
  have k1' : IntsAre (out.toArray.reverse).toList ns' := k1
  exact ⟨.ref _, upd H (s.heap.objs.size + 1) (.lst (ns'.map V.int)), I.laid (t' := s.toks) (fun _ _ => PyProof.Rows.sortedAll_old) (Nat.le_succ _) ⟨hlen, _, ep, vals_of_ints k1', by rw [e0]; exact he'⟩, rfl, q _ _ k2 k3 (I.hok.fresh (Nat.le_succ _))⟩
end GL
namespace DL
open PySem PySem.Spec PyProof.Rows L2
section
variable {K : PySem.W.Frag} {b : Bg} {F H F' H' H0 : Hp} {σ : L2.St} {E : Env'} {s : S3} {t u : TS} {te ta tb : TE} {c : TT} {P : P3} {Φ : D → Prop}
theorem kSrtRT {X : Cx} (h : X.K = K := by rfl) : CallRK X (.builtin "sorted") [Str.ofString "reverse"] (GL.rSortedRT K) := h ▸ GL.cr_sortedRT
theorem wpl_srtRT {Φ : List D → Prop} (h : wpe K b te E fun x => ∃ ns : List Int, x = .tup (ns.map D.int) ∧ Φ ((dsort ns).map D.int)) : wpl K b (tCKw (GL.rSortedRT K) (tCons te tNil) (tCons (tC (.bl true)) tNil)) E Φ := fun H0 F H σ w e Q k =>
  h H0 F H σ w e _ fun v F1 H1 x s1 w1 d1 p1 => by
    obtain ⟨ns, rfl, q⟩ := p1
    cases d1 with
    | tup st a =>
      have e1 := a.ints
      subst e1
      refine ⟨_, ns, rfl, rfl, exT w1.ex st, fun ns' p hp ho hn => ?_⟩
      have e2 : ns' = dsort ns := dsort_of hp (List.Pairwise.imp (fun h => h) ho)
      subst e2
      obtain ⟨w2, s2⟩ := w1.newO (o := .lst ((dsort ns).map V.int)) hn
      exact k p _ F1 _ _ (s1.trans s2 w1) w2 (s1.fresh w1 hn) (w1.outN hn) upd_same (DvA.of_ints _) q
/-- tops, some, level = .., .., {(): True} -/
theorem wps3_start (hE : 4 < E.length) (h : wpe K b ta E fun x => wpe K b tb E fun y => ∀ p, P.nx (((E.set 2 (.d x)).set 3 (.d y)).set 4 .u) { lv := some (p, dTo [[]]) }) :
    wps3 K b (tAsg (tTup (tCons ta (tCons tb (tCons (GL.tDispT (tTup tNil) (tC (.bl true))) tNil)))) (gTup K 3 (gCons (gName 2) (gCons (gName 3) (gCons (gName 4) gNil))))) E {} P := fun F0 H0 F H σ st w e i Dn k =>
  h H0 F H σ w e _ fun v1 F1 H1 x s1 w1 d1 p1 => p1 H0 F1 H1 σ w1 (e.step s1) _ fun v2 F2 H2 y s2 w2 d2 p2 => by
    intro p hp
    refine ⟨Nat.zero_le _, fun q hq => ⟨?_, q, [], .bl true, rfl, ?_, ?_⟩⟩
    · have : p ≠ q := fun z => by rw [← z, upd_same] at hq; cases hq
      rw [upd_ne this]; exact upd_same
    · exact upd_same
    · refine ⟨by rw [sizeLine_eq]; show 3 ≤ _; decide, fun r hr => ?_⟩
      have hpq : p ≠ q := fun z => by rw [← z, upd_same] at hq; cases hq
      have hq2 : H2 q = none := by rw [upd_ne hpq.symm] at hq; exact hq
      have hrp : r ≠ p := fun z => by rw [z, upd_same] at hr; cases hr
      have hrq : r ≠ q := fun z => by
        rw [z, upd_ne hpq.symm, upd_same] at hr; cases hr
      have hr2 : H2 r = none := by rw [upd_ne hrp, upd_ne hrq, upd_ne hrp] at hr; exact hr
      -- one object after another
      obtain ⟨wa, sa⟩ := w2.newO (o := .dT []) hp
      obtain ⟨wb, sb⟩ := wa.newO (o := .tup []) hq
      have nbp := w2.nb hp
      have wc := wb.turn (o := .dT [(([] : List Key), V.bl true)]) (p := p) (w2.outN hp) nbp
      have sc0 : Step b F2 H2 F2 (upd (upd (upd H2 p (.dT [])) q (.tup [])) p (.dT [(([] : List Key), V.bl true)])) := (sa.trans sb wa).turn hp
      obtain ⟨wd, sd⟩ := wc.newO (o := .tup [v1, v2, .ref p]) hr
      have sT := (s1.trans s2 w1).trans (sc0.trans sd wc) w2
      have x2 := s2.ex
      refine ⟨r, _, rfl, SqT.of upd_same, rfl, v1, [v2, .ref p], rfl, v2, [.ref p], rfl, .ref p, [], rfl, rfl, ?_⟩
      have e3 := (((e.step sT).setD (i := 2) (d1.up x2)).setD (i := 3) d2).setV (i := 4) (v := .ref p)
      have g : ∀ k, 4 ≠ k → (((σ.set 2 (some v1)).set 3 (some v2)).set 4 (some (.ref p)))[k]? = ((σ.set 2 (some v1)).set 3 (some v2))[k]? := fun k h => List.getElem?_set_ne h
      refine k.nx _ F2 _ _ _ sT.ex (st.trans sT w) wd e3 ⟨fun q' o z => ?_, (fun _ _ z => by cases z), (fun _ _ _ _ _ z => by cases z), (fun _ z => by cases z), (fun _ z => by cases z)⟩ (p2 p)
      have : (q', o) = (p, dTo [[]]) := (Option.some.inj z).symm
      cases this
      refine ⟨List.getElem?_set_self (by rw [List.length_set, List.length_set, e.len]; exact hE), ⟨w2.outN hp, (st.trans (s1.trans s2 w1) w).fresh w2 hp, nbp⟩, ?_⟩
      rw [upd_ne hrp.symm]
      exact upd_same
theorem wps_of3 {P : Po} (h : wps3 K b t E {} { nx := fun E' _ => P.nx E', rt := P.rt }) : wps K b t E P := fun F0 H0 F H σ st w e Dn k =>
  h F0 H0 F H σ st w e ⟨(fun _ _ z => by cases z), (fun _ _ z => by cases z), (fun _ _ _ _ z => by cases z), (fun _ z => by cases z), (fun _ z => by cases z)⟩ Dn ⟨fun σ F H E s x st w e _ q => k.nx σ F H E x st w e q, k.rt⟩
/-- return len(level) > 0 -/
theorem wps3_retLen {p : Addr} {ks : List (List Int)} (hp : s.lv = some (p, dTo ks)) (h : P.rt (.bl (decide (0 < ks.length)))) : wps3 K b (tRet (tOp (rI0 fun i j => .bl (decide (j < i))) (tCB rLenT (tCons (tVar 4) tNil)) (tC (.int 0)))) E s P := fun F0 H0 F H σ st w e i Dn k => by
  obtain ⟨g1, g2, g3⟩ := i.lv p _ hp
  refine ⟨_, g1, p, _, rfl, g3, _, 0, rfl, rfl, k.rt _ F H (.bl _) st w (.bl _) ?_⟩
  rw [List.length_map]
  have e1 : decide ((0 : Int) < ((ks.length : Nat) : Int)) = decide (0 < ks.length) := by
    congr 1
    simp only [eq_iff_iff]
    omega
  rw [e1]; exact h
/-- xs[e] op= e', xs a list of whole numbers of one's own -/
theorem wps3_augS {i : Nat} {ds : List D} {f : Int → Int → Int} (hi : E[i]? = some (.o ds)) (h : wpe K b tb E fun x => ∃ (n : Int) (jn : Nat) (m : Int), x = .int n ∧ ixN ds.length n = some jn ∧ ds[jn]? = some (.int m) ∧
    wpe K b te E fun y => ∃ v, y = .int v ∧ P.nx (E.set i (.o (ds.set jn (.int (f m v))))) s) (hv : ∀ q a, s.lv = some (q, a) → ∀ xs, a ≠ .lst xs) (ht : s.lt = none) : wps3 K b (tAugS (tVar i) tb te (rIxL K) (ipI f) rSetL) E s P := fun F0 H0 F H σ st w e iv Dn k => by
  obtain ⟨p, us, h1, h2, h3, h4, h5, h6⟩ := e.own i ds hi
  refine ⟨_, h1, h H0 F H σ w e _ fun x F1 H1 xd s1 w1 d1 q => ?_⟩
  obtain ⟨n, jn, m, rfl, hix, hd, q⟩ := q
  cases d1
  have h3a := s1.out p h3 (by rw [h5]; exact fun z => nomatch z)
  have h5a := s1.keep p _ h4 h5
  have h6a := h6.up s1.ex
  obtain ⟨vm, e1, e2⟩ := h6a.get hd
  cases e2
  refine ⟨p, us, n, .int m, rfl, rfl, SqL.of h5a, ?_, q H0 F1 H1 σ w1 (e.step s1) _ fun y F' H' yd s' w' dy q => ?_⟩
  · unfold atI
    rw [h6a.len, hix]; exact e1
  obtain ⟨v, rfl, q⟩ := q
  cases dy
  have h5' := s'.keep p _ h4 h5a
  refine ⟨m, v, rfl, rfl, p, us, n, jn, rfl, rfl, h5', by rw [h6.len]; exact hix, ?_⟩
  have h3' := s'.out p h3a (by rw [h5a]; exact fun z => nomatch z)
  have sT := s1.trans s' w1
  have iT := iv.step w sT
  have ne : ∀ q a, s.lv = some (q, a) → q ≠ p := fun q a hq z => by
    subst z
    have := (iT.lv q a hq).2.2
    rw [h5'] at this
    exact hv q a hq _ (Option.some.inj this).symm
  refine k.nx σ F' _ _ s sT.ex ((st.trans sT w).turn h2) (w'.turn h3' h4) ((e.step sT).turn hi h1 ((h6a.up s'.ex).set (.int _) jn) h3') ?_ q
  exact iT.turn h5' ne (fun q a hq => by rw [ht] at hq; cases hq) (fun xs z => by cases z)
end
end DL

namespace DL
open PySem PySem.Spec PyProof.Rows L2
def t_law_heavy (K : PySem.W.Frag) (C : Addr) : TS :=
  (tSeq (tAsg (tTup (tCons (tCKw (rSortedKw K true [.bl true]) (tCons (tVar 1) tNil) (tCons (tC (.bl true)) tNil)) (tCons (tCKw (rSortedKw K true [.bl true]) (tCons (tVar 0) tNil) (tCons (tC (.bl true)) tNil)) (tCons (GL.tDispT (tTup tNil) (tC (.bl true))) tNil)))) (gTup K 3 (gCons (gName 2) (gCons (gName 3) (gCons (gName 4) gNil)))))
    (tSeq (tIfS (tOr (tTest (tOp (rI0 fun i j => .bl (decide (i < j))) (tCB (rSum K) (tCons (tVar 2) tNil)) (tCB (rSum K) (tCons (tVar 3) tNil)))) (tTest (tOp (rI0 fun i j => .bl (decide (j < i))) (tOp (rIx K) (tVar 3) (tC (.int 0))) (tCB (rMax K) (tCons (tOp rCat (tVar 2) (tLst (tCons (tC (.int 0)) tNil))) tNil)))))
    (tRet (tC (.bl false)))
    tNext)
    (tSeq (tAsg (tCB (rList K) (tCons (tVar 2) tNil)) (gName 5))
    (tSeq (tFor (iList K (tVar 3)) (gName 6)
    (tSeq (tAsg (tLc (iRng1 (tCons (tCB (DL.rLen K) (tCons (tVar 5) tNil)) tNil)) (gName 10) (tTest (tOp (rI0 fun i j => .bl (decide (j ≤ i))) (tOp (rIx K) (tVar 5) (tVar 10)) (tVar 6))) (tVar 10) [10]) (gName 7))
    (tIfS (tTest (tOp (rNeD K) (tVar 7) (tLst tNil)))
    (tAugS (tVar 5) (tOp (rIx K) (tVar 7) (tC (.int 0))) (tVar 6) (rIxL K) (ipI fun i j => i - j) rSetL)
    tNext)))
    (tSeq (tIfS (tTest (tOp (rEqD K) (tOp (rI0 fun i j => .int (i - j)) (tCB (rSum K) (tCons (tVar 2) tNil)) (tCB (rSum K) (tCons (tVar 5) tNil))) (tCB (rSum K) (tCons (tVar 3) tNil))))
    (tRet (tC (.bl true)))
    tNext)
    (tSeq (tFor (iList K (tVar 3)) (gName 6)
    (tSeq (tAsg tDNewT (gName 8))
    (tSeq (tLock (tFor (iKeys (tVar 4)) (gName 9)
    (tFor (iRng1 (tCons (tOp (rI0 fun i j => .int (i + j)) (tCB (DL.rLen K) (tCons (tVar 9) tNil)) (tC (.int 1))) tNil)) (gName 10)
    (tSeq (tAsg (tCB (rTuple K) (tCons (tCKw (GL.rSortedRT K) (tCons (tOp (rCatA K) (tOp (rCatA K) (tSl (rSlA K) (tVar 9) tNoPart (tPart (tVar 10))) (tTup (tCons (tOp (rI0 fun i j => .int (i + j)) (tOp (rIx K) (tOp (rCatA K) (tVar 9) (tTup (tCons (tC (.int 0)) tNil))) (tVar 10)) (tVar 6)) tNil))) (tSl (rSlA K) (tVar 9) (tPart (tOp (rI0 fun i j => .int (i + j)) (tVar 10) (tC (.int 1)))) tNoPart)) tNil) (tCons (tC (.bl true)) tNil)) tNil)) (gName 11))
    (tIfS (tAnd (tTest (tOp (rI0 fun i j => .bl (decide (i ≤ j))) (tCB (DL.rLen K) (tCons (tVar 11) tNil)) (tCB (DL.rLen K) (tCons (tVar 2) tNil)))) (tB (tCB (rAll K) (tCons (tLc (iRng1 (tCons (tCB (DL.rLen K) (tCons (tVar 11) tNil)) tNil)) (gName 12) tYes (tOp (rI0 fun i j => .bl (decide (i ≤ j))) (tOp (rIx K) (tVar 11) (tVar 12)) (tOp (rIx K) (tVar 2) (tVar 12))) [12]) tNil))))
    (tAsg (tC (.bl true)) (gSub (tVar 8) (tVar 11) rSetD))
    tNext)))))
    (tAsg (tVar 8) (gName 4)))))
    (tRet (tOp (rI0 fun i j => .bl (decide (j < i))) (tCB rLenT (tCons (tVar 4) tNil)) (tC (.int 0))))))))))
end DL

namespace DL
open PySem PySem.Spec PyProof.Rows L2
theorem sum_nn : ∀ {R : List Int}, (∀ r ∈ R, 0 ≤ r) → 0 ≤ R.sum
  | [], _ => Int.le_refl _
  | x :: R, h => by
    have := sum_nn (R := R) fun r hr => h r (List.mem_cons_of_mem _ hr)
    have := h x List.mem_cons_self
    rw [List.sum_cons]; omega
theorem fill_sum : ∀ {ws R : List Int}, (∀ r ∈ R, 0 ≤ r) → Fill ws R → ws.sum ≤ R.sum
  | [], R, hR, _ => sum_nn hR
  | w :: ws, R, hR, ⟨r, hr, h1, h2⟩ => by
    have ih := fill_sum (ws := ws) (R := (r - w) :: R.erase r) (fun x hx => by
      rcases List.mem_cons.mp hx with rfl | hx
      · omega
      · exact hR x (List.mem_of_mem_erase hx)) h2
    have hp := sum_perm (List.perm_cons_erase hr)
    rw [List.sum_cons] at ih hp ⊢
    omega
theorem noO_set {E : Env'} {j : Nat} {n : En} (hn : ∀ ds, n ≠ .o ds) (h : noO E = true) : noO (E.set j n) = true := by
  induction E generalizing j with
  | nil => exact h
  | cons e E ih =>
    cases j with
    | zero =>
      cases n with
      | u => cases e <;> first | exact h | cases h
      | d x => cases e <;> first | exact h | cases h
      | o ds => exact absurd rfl (hn ds)
    | succ j =>
      cases e with
      | u => exact ih (j := j) h
      | d x => exact ih (j := j) h
      | o ds => cases h
def spots (S : List Int) (w : Int) (n : Nat) : List Int := ((List.range n).filter fun j => decide (w ≤ rget S (j : Nat))).map fun j => ((j : Nat) : Int)
theorem dI_nil (js : List Int) : D.eq (.lst (js.map D.int)) (.lst []) = js.isEmpty := by cases js <;> rfl
theorem okDI (n : Nat) (js : List Int) : D.ok (n + 2) (.lst (js.map D.int)) = true := by
  unfold D.ok
  refine okA_of fun d hd => ?_
  obtain ⟨x, _, rfl⟩ := List.mem_map.mp hd
  rfl
/-- seats put at once into the first rooms with enough space -/
def GrOk (tops sm : List Int) (n : Nat) (S : List Int) : Prop := S.length = tops.length ∧ tops.sum - S.sum ≤ (sm.take n).sum ∧ (tops.sum - S.sum = (sm.take n).sum → ∀ rest, Fill rest S → Fill (sm.take n ++ rest) tops)
theorem set_sum {S : List Int} {j : Nat} (h : j < S.length) (x : Int) : (S.set j x).sum = S.sum - S[j] + x := by
  have h1 := sum_perm (set_perm_erase h x)
  have h2 := sum_perm (List.perm_cons_erase (List.getElem_mem h))
  rw [List.sum_cons] at h1 h2
  omega
theorem gr_put {tops sm S : List Int} {n j : Nat} {w : Int} (hw : sm[n]? = some w) (hj : j < S.length) (hle : w ≤ S[j]) (h : GrOk tops sm n S) : GrOk tops sm (n + 1) (S.set j (S[j] - w)) := by
  obtain ⟨h1, h2, h3⟩ := h
  have e1 : (sm.take (n + 1)).sum = (sm.take n).sum + w := by rw [take_succ' hw, List.sum_append]; simp
  have e2 := set_sum hj (S[j] - w)
  refine ⟨by rw [List.length_set]; exact h1, by omega, fun e rest hf => ?_⟩
  rw [take_succ' hw, List.append_assoc]
  exact h3 (by omega) _ ⟨S[j], List.getElem_mem hj, hle, Fill.perm (set_perm_erase hj _) hf⟩
theorem gr_no {tops sm S : List Int} {n : Nat} {w : Int} (hw : sm[n]? = some w) (h0 : 1 ≤ w) (h : GrOk tops sm n S) : GrOk tops sm (n + 1) S := by
  obtain ⟨h1, h2, h3⟩ := h
  have e1 : (sm.take (n + 1)).sum = (sm.take n).sum + w := by rw [take_succ' hw, List.sum_append]; simp
  exact ⟨h1, by omega, fun e => by omega⟩
def fac7 : Nat → Nat
  | 0 => 1
  | n + 1 => fac7 n * (n + 1)
theorem fac_le : ∀ {n : Nat}, n ≤ 7 → fac7 n ≤ 5040 ∧ fac7 n * (n + 1) ≤ 40320
  | 0, _ => by decide
  | 1, _ => by decide
  | 2, _ => by decide
  | 3, _ => by decide
  | 4, _ => by decide
  | 5, _ => by decide
  | 6, _ => by decide
  | 7, _ => by decide
  | n + 8, h => absurd h (by omega)
section
variable {K : PySem.W.Frag} {C : Addr} {b : Bg} {P : Po}
abbrev heavyE (ws rs tops sm : List Int) (e5 e6 e7 e10 e11 : En) : Env' := [.d (dI ws), .d (dI rs), .d (dI tops), .d (dI sm), .u, e5, e6, e7, .u, .u, e10, e11, .u]
theorem w_law_heavy {ws rs : List Int} (h1 : 1 ≤ ws.length ∧ ws.length ≤ 7) (hw : ∀ w ∈ ws, 1 ≤ w) (hl : rs.length ≤ 100) (hr : ∀ r ∈ rs, 0 ≤ r) (k : P.rt (.bl (hpk ws rs))) :
    wps K b (t_law_heavy K C) [.d (dI ws), .d (dI rs), .u, .u, .u, .u, .u, .u, .u, .u, .u, .u, .u] P := by
  unfold t_law_heavy
  obtain ⟨tops, htops⟩ : ∃ t, dsort rs = t := ⟨_, rfl⟩
  obtain ⟨sm, hsm⟩ : ∃ t, dsort ws = t := ⟨_, rfl⟩
  have pt : tops.Perm rs := htops ▸ dsort_perm rs
  have ps : sm.Perm ws := hsm ▸ dsort_perm ws
  have tpw : tops.Pairwise fun a c => c ≤ a := htops ▸ dsort_pw rs
  have spw : sm.Pairwise fun a c => c ≤ a := hsm ▸ dsort_pw ws
  have tl : tops.length ≤ 100 := by rw [pt.length_eq]; exact hl
  have sl : 1 ≤ sm.length ∧ sm.length ≤ 7 := by rw [ps.length_eq]; exact h1
  have t0 : ∀ r ∈ tops, 0 ≤ r := fun r h => hr r (pt.mem_iff.mp h)
  have s1 : ∀ w ∈ sm, 1 ≤ w := fun w h => hw w (ps.mem_iff.mp h)
  have s0 : ∀ w ∈ sm, 0 ≤ w := fun w h => by have := s1 w h; omega
  have hk : hpk ws rs = hpk sm tops := hpk_perm (fun w h => by have := hw w h; omega) hr ps.symm pt.symm
  rw [hk] at k
  clear hk
  have kf : ∀ c, hpk sm tops = c → P.rt (.bl c) := fun c e => by rw [← e]; exact k
  refine wps_of3 ?_
  refine wps3_seq (wps3_start (by show 4 < 13; decide) (wpe_l (wpl_srtRev (wpe_var (x := .lst (rs.map D.int)) (by rfl) ⟨rs, rfl, wpe_l (wpl_srtRev (wpe_var (x := .lst (ws.map D.int)) (by rfl) ⟨ws, rfl, fun p => ?_⟩))⟩))))
  rw [htops, hsm]
  -- at once no
  refine wps3_seq (wps3_if (wpt_or (wpt_test (wpe_op (wpe_cb (wpa_cons (wpe_var (x := .lst (tops.map D.int)) (by rfl) (wpa_nil (rc_sum (wpe_cb (wpa_cons (wpe_var (x := .lst (sm.map D.int)) (by rfl) (wpa_nil (rc_sum (rd_I0b ⟨_, rfl, ?_⟩)))))))))))))))
  refine ifB (fun z => ?_) (fun _ => ?_)
  · refine ifT (wps3_ret (wpe_bl (kf _ (hpk_false.mpr fun idx hidx => ?_))))
    have := fill_sum t0 ((fill_iff s0 t0).mpr ⟨idx, hidx⟩)
    have := of_decide_eq_true z
    omega
  cases hsmc : sm with
  | nil => rw [hsmc] at sl; exact absurd sl.1 (by decide)
  | cons w0 sm' =>
  rw [← hsmc]
  have e0 : atI (sm.map D.int) 0 = some (.int w0) := by rw [hsmc]; exact atI_of (i := 0) rfl
  refine wpt_test (wpe_op (wpe_op (wpe_var (x := .lst (sm.map D.int)) (by rfl) (wpe_int (rd_ixl e0 (wpe_cb (wpa_cons (wpe_l (wpl_op (wpe_var (x := .lst (tops.map D.int)) (by rfl) (wpe_l (wpl_lst (wpa_cons (wpe_int (wpa_nil ⟨len_le rfl, rd_cat (by rw [List.length_map]; show tops.length + 1 ≤ 100000; omega) ?_⟩)))))))))))))))
  rw [show tops.map D.int ++ [D.int 0] = (tops ++ [0]).map D.int by rw [List.map_append]; rfl]
  refine wpa_nil (rcMaxL (by simp) fun m hm hmax => rd_I0b ⟨_, rfl, ?_⟩)
  refine ifB (fun z => ?_) (fun _ => ?_)
  · refine wps3_ret (wpe_bl (kf _ (hpk_false.mpr fun idx hidx => ?_)))
    have hf := (fill_iff s0 t0).mpr ⟨idx, hidx⟩
    rw [hsmc] at hf
    obtain ⟨r, hr1, hr2, _⟩ := hf
    have := hmax r (List.mem_append_left _ hr1)
    have := of_decide_eq_true z
    omega
  clear e0 hm hmax
  refine wps3_next ?_
  -- at once yes
  refine wps3_seq (wps3_asgl (by decide) (wpl_cb (wpa_cons (wpe_var (x := .lst (tops.map D.int)) (by rfl) (wpa_nil (rcl_listL ?_))))))
  refine wps3_seq (wps3_for (j := 6) (by decide) (wpi3_of (wpi_list (wpe_var (x := .lst (sm.map D.int)) (by rfl) ⟨_, rfl, fun n E s => ∃ (S : List Int) (o6 o7 : Option D), GrOk tops sm n S ∧ s = { lv := some (p, dTo [[]]) } ∧ E = heavyE ws rs tops sm (.o (S.map D.int)) (o6.elim .u .d) (o7.elim .u .d) .u .u,
    ⟨tops, none, none, ⟨rfl, by rw [Int.sub_self]; exact Int.le_refl _, fun _ rest h => h⟩, rfl, rfl⟩, fun n d E s hd hI => ?_, fun E s hI => ?_⟩))))
  · obtain ⟨S, o6, o7, hG, rfl, rfl⟩ := hI
    obtain ⟨w, hwn, rfl, hwm⟩ := map_mem hd
    have hSl := hG.1
    refine wps3_seq (wps3_asg (by decide) (wpe_l (wpl_lendT 5 (ds := S.map D.int) (by rfl) (by cases o7 <;> rfl) (wpl_lc (wpi_rng1 (wpa_cons (wpe_cb (wpa_cons (wpe_var (x := .lst (S.map D.int)) (by rfl) (wpa_nil (rc_lenL ?_))))))))))) 
    rw [List.length_map]
    refine wpa_nil ⟨_, rfl, by omega, by omega, by rw [rangeD_len]; omega, fun i acc => acc = (spots S w i).map D.int, rfl, fun i d acc hd hl hI => ?_, fun acc hI => ?_⟩
    · obtain ⟨hi, rfl⟩ := rangeD_at hd
      have hi' : i < S.length := by omega
      subst hI
      rw [Int.zero_add]
      refine wpg_name (by simp) (wpt_test (wpe_op (wpe_op (wpe_var (x := .lst (S.map D.int)) (by rfl) (wpe_var (by rfl) (rd_ixl (rget_at (r := S) (c := (i : Int)) (by omega) (by omega)) (wpe_var (by rfl) (rd_I0b ⟨_, rfl, ifB (fun z => ?_) (fun z => ?_)⟩))))))))
      · refine wpe_var (by rfl) ?_
        show _ = (spots S w (i + 1)).map D.int
        unfold spots
        rw [filt_snoc, z, if_pos rfl, List.map_append]; rfl
      · show _ = (spots S w (i + 1)).map D.int
        unfold spots
        rw [filt_snoc, z, if_neg Bool.false_ne_true, List.append_nil]
    · rw [rangeD_len, show ((S.length : Nat) : Int).toNat = S.length from rfl] at hI
      subst hI
      refine ⟨nlA_ints _, ?_⟩
      obtain ⟨js, hjs⟩ : ∃ js, spots S w S.length = js := ⟨_, rfl⟩
      rw [hjs]
      refine wps3_if (wpt_test (wpe_op (wpe_var (x := .lst (js.map D.int)) (by rfl) (wpe_l (wpl_lst (wpa_nil ⟨len_le rfl, rd_neD 9 (by decide) (okDI 7 _) (by rfl) ⟨_, rfl, ?_⟩⟩))))))
      rw [dI_nil]
      cases js with
      | nil => exact ifF (wps3_next ⟨S, some (.int w), some (.lst []), gr_no hwn (s1 w hwm) hG, rfl, rfl⟩)
      | cons x xs =>
        have hx : x ∈ spots S w S.length := by rw [hjs]; exact List.mem_cons_self
        obtain ⟨j, hj, rfl⟩ := List.mem_map.mp hx
        obtain ⟨hj1, hj2⟩ := List.mem_filter.mp hj
        have hjl := List.mem_range.mp hj1
        have hle : w ≤ S[j] := by have := of_decide_eq_true hj2; rw [rget_in hjl] at this; exact this
        have e0 : atI ((((j : Nat) : Int) :: xs).map D.int) 0 = some (.int (j : Nat)) := atI_of (i := 0) rfl
        refine ifT (wps3_augS (i := 5) (ds := S.map D.int) (by rfl) (wpe_op (wpe_var (x := .lst ((((j : Nat) : Int) :: xs).map D.int)) (by rfl) (wpe_int (rd_ixl e0 ⟨(j : Nat), j, S[j], rfl, ?_, ?_, wpe_var (by rfl) ⟨w, rfl, ?_⟩⟩)))) (fun q a z xs y => by cases z; cases y) rfl)
        · unfold ixN
          rw [if_pos (Int.natCast_nonneg _), if_pos (by rw [List.length_map]; omega), Int.toNat_natCast]
        · rw [List.getElem?_map, List.getElem?_eq_getElem hjl]; rfl
        · refine ⟨S.set j (S[j] - w), some (.int w), some (.lst ((((j : Nat) : Int) :: xs).map D.int)), gr_put hwn hjl hle hG, rfl, ?_⟩
          rw [List.map_set]; rfl
  obtain ⟨S, o6, o7, hG, rfl, rfl⟩ := hI
  rw [List.length_map] at hG
  refine wps3_frz 5 (ds := S.map D.int) (by rfl) ?_ (fun q a z xs y => by cases z; cases y) (fun q a z => by cases z)
  refine wps3_seq (wps3_if (wpt_test (wpe_op (wpe_op (wpe_cb (wpa_cons (wpe_var (x := .lst (tops.map D.int)) (by rfl) (wpa_nil (rc_sum (wpe_cb (wpa_cons (wpe_var (x := .lst (S.map D.int)) (by rfl) (wpa_nil (rc_sum (rd_I0i (wpe_cb (wpa_cons (wpe_var (x := .lst (sm.map D.int)) (by rfl) (wpa_nil (rc_sum (rd_eqD 9 (by decide) rfl rfl ⟨_, rfl, ?_⟩)))))))))))))))))))))
  rw [eqi]
  refine ifB (fun z => ?_) (fun _ => wps3_next ?_)
  · refine wps3_ret (wpe_bl (kf _ (hpk_true.mpr ((fill_iff s0 t0).mp ?_))))
    have := hG.2.2 (by rw [List.take_length]; exact of_decide_eq_true z) [] True.intro
    rw [List.append_nil, List.take_length] at this
    exact this
  -- level by level
  have htake : ∀ n, n < sm.length → sm.drop n = rget sm (n : Nat) :: sm.drop (n + 1) := fun n h => by rw [List.drop_eq_getElem_cons h, rget_in h]
  refine wps3_seq (wps3_for (j := 6) (by decide) (wpi3_of (wpi_list (wpe_var (x := .lst (sm.map D.int)) (by rfl) ⟨_, rfl, fun n E s => ∃ (L : List (List Int)) (q : Addr) (a6 a7 a10 a11 : En), LevOk tops (sm.take n) (sm.drop n) L ∧ L.length ≤ fac7 n ∧ s.lv = some (q, dTo L) ∧ noO E = true ∧ E = heavyE ws rs tops sm (.d (dI S)) a6 a7 a10 a11,
    ⟨[[]], p, _, _, _, _, lev_zero tops sm, by decide, rfl, ?_, rfl⟩, fun n d E s hd hI => ?_, fun E s hI => ?_⟩))))
  · cases o6 <;> cases o7 <;> rfl
  · obtain ⟨L, q, a6, a7, a10, a11, hL, hLf, hlv, hno, rfl⟩ := hI
    obtain ⟨w, hwn, rfl, hwm⟩ := map_mem hd
    have hn : n < sm.length := (List.getElem?_eq_some_iff.mp hwn).1
    have hw1 := s1 w hwm
    have ew : rget sm (n : Nat) = w := by unfold rget; rw [Int.toNat_natCast, List.getD, hwn]; rfl
    have hdrop := htake n hn
    rw [ew] at hdrop
    rw [hdrop] at hL
    have hfac := fac_le (n := n) (by omega)
    have hLn : L.length * (n + 1) ≤ 40320 := Nat.le_trans (Nat.mul_le_mul_right _ hLf) hfac.2
    have hlen : ∀ l ∈ L, l.length ≤ n := fun l h => by have := hL.len l h; rw [List.length_take] at this; omega
    have hno2 := noO_set (j := 6) (n := .d (.int w)) (fun ds z => by cases z) hno
    refine wps3_seq (wps3_new8 hno2 (by show 8 < 13; decide) fun p8 => ?_)
    have hno3 := noO_set (j := 8) (n := .u) (fun ds z => by cases z) hno2
    refine wps3_seq (wps3_walk (p := q) (ks := L) hlv hno3 (by show 9 < 13; decide) fun od => ⟨fun m E s => ∃ (N : List (List Int)) (a10 a11 : En), s.lv = some (q, .frz od (dTo L)) ∧ s.lt = some (p8, dTo N) ∧ (∀ l, l ∈ N ↔ ∃ load ∈ L.take m, ∃ k, k ≤ load.length ∧ l = dsort (addAt load k w) ∧ fits tops l) ∧ N.length ≤ m * (n + 1) ∧
      noO E = true ∧ E = heavyE ws rs tops sm (.d (dI S)) (.d (.int w)) a7 a10 a11, ⟨[], _, _, rfl, rfl, fun l => ⟨(fun z => nomatch z), fun ⟨load, z, _⟩ => by simp at z⟩, Nat.zero_le _, hno3, rfl⟩, fun m E s ⟨_, _, _, h1, _, _, _, _, h2⟩ => ⟨h1, by rw [h2]; show 9 < 13; decide⟩, fun m load E s hload hI => ?_, fun E s hI => ?_⟩)
    · obtain ⟨N, b10, b11, hlv1, hlt1, hN, hNl, hnoE, rfl⟩ := hI
      have hm : m < L.length := (List.getElem?_eq_some_iff.mp hload).1
      have hll := hlen load (List.mem_of_getElem? hload)
      have hno4 := noO_set (j := 9) (n := .u) (fun ds z => by cases z) hnoE
      refine wps3_for (j := 10) (by decide) (wpi3_rng (ld := load) rfl hno4 (wpe_op (wpe_cb (wpa_cons (wpe_var (x := .tup (load.map D.int)) (by rfl) (wpa_nil (rc_lenT (wpe_int (rd_I0i ⟨load.length + 1, by rw [List.length_map]; rfl, by omega, ?_⟩)))))))))
      refine ⟨fun c E s => ∃ (M : List (List Int)) (a10 a11 : En), s.lv = some (q, .frz od (dTo L)) ∧ s.lt = some (p8, dTo M) ∧ s.ld = some load ∧ (∀ l, l ∈ M ↔ (∃ load ∈ L.take m, ∃ k, k ≤ load.length ∧ l = dsort (addAt load k w) ∧ fits tops l) ∨ ∃ k, k < c ∧ l = dsort (addAt load k w) ∧ fits tops l) ∧ M.length ≤ m * (n + 1) + c ∧
        noO E = true ∧ E = heavyE ws rs tops sm (.d (dI S)) (.d (.int w)) a7 a10 a11, ⟨N, _, _, hlv1, hlt1, rfl, fun l => by rw [hN]; exact ⟨.inl, fun z => z.elim id fun ⟨k, z, _⟩ => absurd z (Nat.not_lt_zero _)⟩, by omega, hno4, rfl⟩, fun c d E s hd hI => ?_, fun E s hI => ?_⟩
      · obtain ⟨M, c10, c11, hlv2, hlt2, hld2, hM, hMl, hnoE2, rfl⟩ := hI
        obtain ⟨hc, rfl⟩ := rangeD_at hd
        rw [Int.zero_add]
        have hno5 := noO_set (j := 10) (n := .d (.int (c : Nat))) (fun ds z => by cases z) hnoE2
        have hcl : c ≤ load.length := by omega
        have ecut1 : cutD (load.map D.int) none (some (c : Int)) = (load.take c).map D.int := by rw [cut_to (by rw [List.length_map]; omega), List.map_take]
        have eix : atI ((load ++ [0]).map D.int) (c : Int) = some (.int ((load ++ [0]).getD c 0)) := by
          have : c < (load ++ [0]).length := by rw [List.length_append]; show c < load.length + 1; omega
          refine atI_of ?_
          rw [List.getElem?_map, List.getD, List.getElem?_eq_getElem this]; rfl
        refine wps3_seq (wps3_one hld2 hno5 (by show 11 < 13; decide) (wpl_srtRT (wpe_op (wpe_op (wpe_slA (wpe_var (x := .tup (load.map D.int)) (by rfl) (wpo_none (wpo_some (wpe_var (by rfl) ⟨_, rfl, _, rfl, ?_⟩)))))))))
        rw [ecut1]
        refine wpe_tup (wpa_cons (wpe_op (wpe_op (wpe_op (wpe_var (x := .tup (load.map D.int)) (by rfl) (wpe_tup (wpa_cons (wpe_int (wpa_nil ⟨len_le rfl, rd_catA (by rw [List.length_map]; show load.length + 1 ≤ 100000; omega) ?_⟩)))))))))
        rw [show load.map D.int ++ [D.int 0] = (load ++ [0]).map D.int by rw [List.map_append]; rfl]
        refine wpe_var (by rfl) (rd_ixt eix (wpe_var (by rfl) (rd_I0i (wpa_nil ⟨len_le rfl, rd_catA (by rw [List.length_map, List.length_take]; show min c load.length + 1 ≤ 100000; omega) ?_⟩))))
        refine wpe_slA (wpe_var (x := .tup (load.map D.int)) (by rfl) (wpo_some (wpe_op (wpe_var (by rfl) (wpe_int (rd_I0i ⟨_, rfl, wpo_none ⟨_, rfl, ?_⟩⟩))))))
        have ecut2 : cutD (load.map D.int) (some ((c : Int) + 1)) none = (load.drop (c + 1)).map D.int := by
          by_cases hz : c + 1 ≤ load.length
          · rw [show (c : Int) + 1 = ((c + 1 : Nat) : Int) from rfl, cut_from (by rw [List.length_map]; omega), List.map_drop]
          · have e1 : load.drop (c + 1) = [] := List.drop_of_length_le (by omega)
            rw [e1, show (c : Int) + 1 = ((c + 1 : Nat) : Int) from rfl]
            unfold cutD
            rw [HT.sIx_nat, HT.sIx_none, Nat.min_eq_right (by rw [List.length_map]; omega), Nat.sub_self, List.take_zero]; rfl
        rw [ecut2]
        refine rd_catA (by simp only [List.length_append, List.length_map, List.length_take, List.length_drop, List.length_cons, List.length_nil]; omega) ⟨addAt load c w, ?_, dsort (addAt load c w), rfl, ?_⟩
        · unfold addAt
          rw [List.map_append, List.map_append]; rfl
        obtain ⟨one, hone⟩ : ∃ one, dsort (addAt load c w) = one := ⟨_, rfl⟩
        have hol : one.length ≤ load.length + 1 := by rw [← hone]; exact addAt_len hcl
        rw [hone]
        have hno6 := noO_set (j := 11) (n := .d (.tup (one.map D.int))) (fun ds z => by cases z) hno5
        have put : fits tops one → ∀ l, l ∈ insK M one ↔ (∃ load ∈ L.take m, ∃ k, k ≤ load.length ∧ l = dsort (addAt load k w) ∧ fits tops l) ∨ ∃ k, k < c + 1 ∧ l = dsort (addAt load k w) ∧ fits tops l := fun hf l => by
          rw [insK_mem, hM]
          constructor
          · rintro ((z | ⟨k, k1, k2⟩) | z)
            · exact .inl z
            · exact .inr ⟨k, by omega, k2⟩
            · rw [z]; exact .inr ⟨c, Nat.lt_succ_self _, hone.symm, hf⟩
          · rintro (z | ⟨k, k1, k2, k3⟩)
            · exact .inl (.inl z)
            · by_cases hkc : k = c
              · subst hkc; exact .inr (k2.trans hone)
              · exact .inl (.inr ⟨k, by omega, k2, k3⟩)
        have noput : ¬ fits tops one → ∀ l, l ∈ M ↔ (∃ load ∈ L.take m, ∃ k, k ≤ load.length ∧ l = dsort (addAt load k w) ∧ fits tops l) ∨ ∃ k, k < c + 1 ∧ l = dsort (addAt load k w) ∧ fits tops l := fun hf l => by
          rw [hM]
          constructor
          · rintro (z | ⟨k, k1, k2⟩)
            · exact .inl z
            · exact .inr ⟨k, by omega, k2⟩
          · rintro (z | ⟨k, k1, k2, k3⟩)
            · exact .inl z
            · by_cases hkc : k = c
              · subst hkc; exact absurd (by rw [← hone, ← k2]; exact k3) hf
              · exact .inr ⟨k, by omega, k2, k3⟩
        have mul1 : m * (n + 1) + (n + 1) ≤ L.length * (n + 1) := by rw [← Nat.succ_mul]; exact Nat.mul_le_mul_right _ hm
        refine wps3_if (wpt_and (wpt_test (wpe_op (wpe_cb (wpa_cons (wpe_var (x := .tup (one.map D.int)) (by rfl) (wpa_nil (rc_lenT (wpe_cb (wpa_cons (wpe_var (x := .lst (tops.map D.int)) (by rfl) (wpa_nil (rc_lenL (rd_I0b ⟨_, rfl, ?_⟩))))))))))))))
        rw [List.length_map, List.length_map]
        refine ifB (fun z => ?_) (fun z => ifF (wps3_next ⟨M, _, _, hlv2, hlt2, hld2, noput fun hf => ?_, by omega, hno6, rfl⟩))
        · have hlt : one.length ≤ tops.length := by have := of_decide_eq_true z; omega
          refine wpt_B (wpe_cb (wpa_cons (wpe_l (wpl_gen1 (R := fun j y => j < one.length ∧ y = .bl (decide (rget one (j : Nat) ≤ rget tops (j : Nat)))) (wpi_rng1 (wpa_cons (wpe_cb (wpa_cons (wpe_var (x := .tup (one.map D.int)) (by rfl) (wpa_nil (rc_lenT ?_))))))))))) 
          rw [List.length_map]
          refine wpa_nil ⟨_, rfl, by omega, by omega, by rw [rangeD_len]; omega, fun j d hd => ?_, fun acc hl hR => ?_⟩
          · obtain ⟨hj, rfl⟩ := rangeD_at hd
            have hj' : j < one.length := by omega
            rw [Int.zero_add]
            exact wpe_op (wpe_op (wpe_var (x := .tup (one.map D.int)) (by rfl) (wpe_var (by rfl) (rd_ixt (rget_at (r := one) (c := (j : Int)) (by omega) (by omega)) (wpe_op (wpe_var (x := .lst (tops.map D.int)) (by rfl) (wpe_var (by rfl) (rd_ixl (rget_at (r := tops) (c := (j : Int)) (by omega) (by omega)) (rd_I0b ⟨hj', rfl⟩)))))))))
          · rw [rangeD_len] at hl
            have hacc : acc = ((List.range one.length).map fun j => decide (rget one (j : Nat) ≤ rget tops (j : Nat))).map D.bl := by
              refine list_of_get (by rw [hl]; simp) fun j y z => ?_
              obtain ⟨hj, rfl⟩ := hR j y z
              rw [List.getElem?_map, List.getElem?_map, List.getElem?_range hj]; rfl
            subst hacc
            refine wpa_nil (rc_all ⟨_, rfl, ifB (fun z2 => ?_) (fun z2 => ?_)⟩)
            · have hf : fits tops one := ⟨hlt, fun j hj => by
                have := List.all_eq_true.mp z2 _ (List.mem_map.mpr ⟨j, List.mem_range.mpr hj, rfl⟩)
                exact of_decide_eq_true this⟩
              refine wps3_put hlt2 rfl hno6 (by omega) ⟨insK M one, _, _, hlv2, rfl, hld2, put hf, by have := insK_len M one; omega, hno6, rfl⟩
            · refine wps3_next ⟨M, _, _, hlv2, hlt2, hld2, noput fun hf => ?_, by omega, hno6, rfl⟩
              have : (List.all ((List.range one.length).map fun j => decide (rget one (j : Nat) ≤ rget tops (j : Nat))) id) = true := by
                rw [List.all_eq_true]
                intro x hx
                obtain ⟨j, hj, rfl⟩ := List.mem_map.mp hx
                exact decide_eq_true (hf.2 j (List.mem_range.mp hj))
              rw [this] at z2; cases z2
        · have := of_decide_eq_false z
          have := hf.1
          omega
      · obtain ⟨M, c10, c11, hlv2, hlt2, hld2, hM, hMl, hnoE2, rfl⟩ := hI
        rw [rangeD_len] at hM hMl
        refine ⟨M, _, _, hlv2, hlt2, fun l => ?_, ?_, hnoE2, rfl⟩
        · rw [hM, take_succ' hload]
          constructor
          · rintro (⟨x, x1, x2⟩ | ⟨k, k1, k2⟩)
            · exact ⟨x, List.mem_append_left _ x1, x2⟩
            · exact ⟨load, List.mem_append_right _ List.mem_cons_self, k, by omega, k2⟩
          · rintro ⟨x, x1, k, k1, k2⟩
            rcases List.mem_append.mp x1 with x1 | x1
            · exact .inl ⟨x, x1, k, k1, k2⟩
            · rw [List.mem_singleton.mp x1] at k1 k2
              exact .inr ⟨k, by omega, k2⟩
        · rw [Nat.succ_mul]; omega
    · obtain ⟨N, b10, b11, hlv1, hlt1, hN, hNl, hnoE, rfl⟩ := hI
      refine ⟨hnoE, wps3_mv hlt1 (by show 4 < 13; decide) ⟨N, p8, _, _, _, _, ?_, ?_, rfl, noO_set (j := 4) (n := .u) (fun ds z => by cases z) hnoE, rfl⟩⟩
      · rw [take_succ' hwn]
        refine lev_succ tpw (by omega) hL fun l => ?_
        rw [hN, List.take_length]
      · exact Nat.le_trans hNl (Nat.mul_le_mul_right _ hLf)
  · obtain ⟨L, q, a6, a7, a10, a11, hL, hLf, hlv, hno, rfl⟩ := hI
    rw [List.length_map, List.take_length, List.drop_length] at hL
    exact wps3_retLen hlv (kf _ (lev_end s0 (fun z => by rw [z] at sl; exact absurd sl.1 (by decide)) t0 hL).symm)
end
end DL

namespace GL
open PySem PySem.Spec PyProof.Rows L2
/-! max(xs, default=d) of a list of ints -/
theorem foldmax : ∀ (ms : List Int) (n : Int), (ms.foldl max n ∈ n :: ms) ∧ ∀ y ∈ n :: ms, y ≤ ms.foldl max n
  | [], n => ⟨List.mem_singleton.mpr rfl, fun y hy => by rw [List.mem_singleton.mp hy]; exact Int.le_refl _⟩
  | m :: ms, n => by
    obtain ⟨h1, h2⟩ := foldmax ms (max n m)
    refine ⟨?_, fun y hy => ?_⟩
    · show ms.foldl max (max n m) ∈ n :: m :: ms
      rcases List.mem_cons.mp h1 with h | h
      · rw [h]
        rcases Int.le_total n m with z | z
        · rw [Int.max_eq_right z]; exact List.mem_cons_of_mem _ List.mem_cons_self
        · rw [Int.max_eq_left z]; exact List.mem_cons_self
      · exact List.mem_cons_of_mem _ (List.mem_cons_of_mem _ h)
    · show y ≤ ms.foldl max (max n m)
      have h0 := h2 (max n m) List.mem_cons_self
      rcases List.mem_cons.mp hy with rfl | hy
      · exact Int.le_trans (Int.le_max_left _ _) h0
      · rcases List.mem_cons.mp hy with rfl | hy
        · exact Int.le_trans (Int.le_max_right _ _) h0
        · exact h2 y (List.mem_cons_of_mem _ hy)
def rMaxDf (K : PySem.W.Frag) : List V → List V → Hp → VK → Prop := fun vs zs H Q => ∃ (a : Addr) (ns : List Int) (d : Int), vs = [V.ref a] ∧ zs = [.int d] ∧ SqL K H a (ns.map V.int) ∧ (ns = [] → Q (.int d) H) ∧ ∀ m, m ∈ ns → (∀ y, y ∈ ns → y ≤ m) → Q (.int m) H
theorem dpInts {K : PySem.W.Frag} {H : Hp} : ∀ ns : List Int, DpAll K H (ns.map V.int) (ns.map PyData.int)
  | [] => .nil
  | n :: ns => .cons (.int n) (dpInts ns)
theorem depthInts : ∀ ns : List Int, PyData.depthAll (ns.map PyData.int) ≤ 1
  | [] => by simp [PyData.depthAll]
  | n :: ns => by
    have := depthInts ns
    simp only [List.map_cons, PyData.depthAll, PyData.depth]
    omega
theorem cr_maxDf {X : Cx} (hc : X.calm = true) (hu : X.A.units + 100 < cLine) : CallRK X (.builtin "max") [Str.ofString "default"] (rMaxDf X.K) := by
  intro pins s σ H vs zs us ws Q I r rz h
  obtain ⟨a, ns, d, rfl, rfl, hs, q0, q1⟩ := h
  obtain rfl := Vals.ref1 r
  obtain ⟨w1, rfl, e1⟩ := vals1 rz
  obtain ⟨t, rfl⟩ := e1
  obtain ⟨its, rv, hl, hz⟩ := I.list hs
  obtain ⟨as, hr⟩ := Dp.readsAll I (ns.map PyData.int) _ _ (dpInts ns) rv
  have hd := depthInts ns
  refine PySem.W.max_list_default (vs := its.toArray) (xs := ns.map PyData.int) (as := as) (I.ok.hd hc) hl.isList hr ⟨fun x hx y hy => ?_, fun x hx => ?_⟩ (by omega) (fun e0 h' tk hk => ⟨.int d, H, I.kept hk, ⟨_, rfl⟩, q0 (by simpa using e0)⟩) (fun y ys i v h' tk bs e hv hrd hk => ?_)
  · obtain ⟨x, _, rfl⟩ := List.mem_map.mp hx
    obtain ⟨y, _, rfl⟩ := List.mem_map.mp hy
    rfl
  · obtain ⟨x, _, rfl⟩ := List.mem_map.mp hx
    exact fun z => nomatch z
  · cases ns with
    | nil => cases e
    | cons n ms =>
      cases e
      rw [PySem.W.maxD_ints] at hrd
      obtain ⟨f1, f2⟩ := foldmax ms n
      cases hrd with
      | int _ t => exact ⟨.int _, H, I.kept hk, ⟨_, rfl⟩, q1 _ f1 f2⟩
/-! any(xs) of a list of ints -/
def rAnyI (K : PySem.W.Frag) : List V → Hp → VK → Prop := fun vs H Q => ∃ (a : Addr) (ns : List Int), vs = [V.ref a] ∧ SqL K H a (ns.map V.int) ∧ Q (.bl (ns.any fun n => n != 0)) H
theorem plainInts : ∀ ns : List Int, PyData.plainAll (ns.map PyData.int) = true
  | [] => rfl
  | n :: ns => by
    rw [List.map_cons, PyData.plainAll, plainInts ns]; rfl
theorem cr_anyI {X : Cx} (hc : X.calm = true) : CallR X (.builtin "any") (rAnyI X.K) := by
  intro pins s σ H vs us Q I r h
  obtain ⟨a, ns, rfl, hs, q⟩ := h
  obtain rfl := Vals.ref1 r
  obtain ⟨its, rv, hl, hz⟩ := I.list hs
  obtain ⟨as, hr⟩ := Dp.readsAll I (ns.map PyData.int) _ _ (dpInts ns) rv
  refine PySem.W.any_list_data (vs := its.toArray) (xs := ns.map PyData.int) (as := as) (I.ok.hd hc) hl.isList hr (plainInts ns) (fun x hx => ?_) fun h' tk hk => ⟨.bl _, H, I.kept hk, ?_, q⟩
  · obtain ⟨x, _, rfl⟩ := List.mem_map.mp hx
    trivial
  · show Value.bool _ = Value.bool _
    rw [List.any_map]; rfl
end GL
namespace DL
open PySem PySem.Spec PyProof.Rows L2
section
variable {K : PySem.W.Frag} {b : Bg} {E : Env'} {te ta tb : TE} {Φ : D → Prop}
theorem kAnyI {X : Cx} (hc : X.calm = true := by rfl) (h : X.K = K := by rfl) : CallR X (.builtin "any") (GL.rAnyI K) := h ▸ GL.cr_anyI hc
theorem rc_anyI {ns : List Int} (q : Φ (.bl (ns.any fun n => n != 0))) : rdc K b (GL.rAnyI K) [.lst (ns.map D.int)] Φ := fun F H vs w d Q k => by
  cases d with
  | cons d1 d =>
    cases d
    cases d1 with
    | lst s a =>
      have e := a.ints
      subst e
      exact ⟨_, ns, rfl, SqL.of (w.ex _ _ s), k _ F H _ .refl w (.bl _) q⟩
theorem kMaxDf {X : Cx} (hu : X.A.units + 100 < cLine) (hc : X.calm = true := by rfl) (h : X.K = K := by rfl) : CallRK X (.builtin "max") [Str.ofString "default"] (GL.rMaxDf K) := h ▸ GL.cr_maxDf hc hu
theorem wpe_maxDf (h : wpe K b ta E fun x => ∃ ns : List Int, x = .lst (ns.map D.int) ∧ wpe K b tb E fun y => ∃ d : Int, y = .int d ∧ (ns = [] → Φ (.int d)) ∧ ∀ m, m ∈ ns → (∀ y, y ∈ ns → y ≤ m) → Φ (.int m)) : wpe K b (tCKw (GL.rMaxDf K) (tCons ta tNil) (tCons tb tNil)) E Φ := fun H0 F H σ w e Q k =>
  h H0 F H σ w e _ fun v F1 H1 x s1 w1 d1 p1 => by
    obtain ⟨ns, rfl, p1⟩ := p1
    refine p1 H0 F1 H1 σ w1 (e.step s1) _ fun u F2 H2 y s2 w2 d2 p2 => ?_
    obtain ⟨d, rfl, q0, q1⟩ := p2
    cases d2
    cases d1 with
    | lst s a =>
      have ea := a.ints
      subst ea
      exact ⟨_, ns, d, rfl, rfl, SqL.of (w2.ex _ _ (s2.ex _ _ s)), fun z => k _ F2 H2 _ (s1.trans s2 w1) w2 (.int d) (q0 z), fun m m1 m2 => k _ F2 H2 _ (s1.trans s2 w1) w2 (.int m) (q1 m m1 m2)⟩
end
end DL

namespace DL
open PySem PySem.Spec PyProof.Rows L2
/-! subsets by masks -/
def subL {α : Type} : List α → Nat → List α
  | [], _ => []
  | x :: xs, m => if m.testBit 0 = true then x :: subL xs (m / 2) else subL xs (m / 2)
theorem testBit_half (m j : Nat) : (m / 2).testBit j = m.testBit (j + 1) := (Nat.testBit_succ m j).symm
section
variable {α β : Type}
theorem subL_snoc (x : α) : ∀ (xs : List α) (m : Nat), subL (xs ++ [x]) m = subL xs m ++ if m.testBit xs.length = true then [x] else []
  | [], m => by
    show (if m.testBit 0 = true then x :: subL [] (m / 2) else subL [] (m / 2)) = [] ++ _
    rw [List.nil_append]; rfl
  | y :: xs, m => by
    show (if m.testBit 0 = true then y :: subL (xs ++ [x]) (m / 2) else subL (xs ++ [x]) (m / 2)) = (if m.testBit 0 = true then y :: subL xs (m / 2) else subL xs (m / 2)) ++ _
    rw [subL_snoc x xs (m / 2), testBit_half, List.length_cons]
    by_cases h : m.testBit 0 = true
    · rw [if_pos h, if_pos h]; rfl
    · rw [if_neg h, if_neg h]
theorem subL_map (f : α → β) : ∀ (xs : List α) (m : Nat), subL (xs.map f) m = (subL xs m).map f
  | [], _ => rfl
  | x :: xs, m => by
    show (if m.testBit 0 = true then f x :: subL (xs.map f) (m / 2) else subL (xs.map f) (m / 2)) = List.map f (if m.testBit 0 = true then x :: subL xs (m / 2) else subL xs (m / 2))
    rw [subL_map f xs (m / 2)]
    by_cases h : m.testBit 0 = true
    · rw [if_pos h, if_pos h]; rfl
    · rw [if_neg h, if_neg h]
theorem subL_congr : ∀ {xs : List α} {m k : Nat}, (∀ j, j < xs.length → m.testBit j = k.testBit j) → subL xs m = subL xs k
  | [], _, _, _ => rfl
  | x :: xs, m, k, h => by
    have h0 := h 0 (by simp)
    have ih := subL_congr (xs := xs) (m := m / 2) (k := k / 2) fun j hj => by
      rw [testBit_half, testBit_half]
      exact h (j + 1) (by simpa using hj)
    show (if m.testBit 0 = true then x :: subL xs (m / 2) else subL xs (m / 2)) = if k.testBit 0 = true then x :: subL xs (k / 2) else subL xs (k / 2)
    rw [h0, ih]
theorem subL_mem {x : α} : ∀ {xs : List α} {m : Nat}, x ∈ subL xs m ↔ ∃ j : Nat, xs[j]? = some x ∧ m.testBit j = true
  | [], m => ⟨fun h => (List.not_mem_nil h).elim, fun ⟨j, h, _⟩ => by simp at h⟩
  | y :: xs, m => by
    have ih := subL_mem (x := x) (xs := xs) (m := m / 2)
    have e : x ∈ subL (y :: xs) m ↔ (m.testBit 0 = true ∧ x = y) ∨ x ∈ subL xs (m / 2) := by
      show x ∈ (if m.testBit 0 = true then y :: subL xs (m / 2) else subL xs (m / 2)) ↔ _
      by_cases h : m.testBit 0 = true
      · rw [if_pos h, List.mem_cons]
        exact ⟨fun z => z.imp (fun z => ⟨h, z⟩) id, fun z => z.imp (fun z => z.2) id⟩
      · rw [if_neg h]
        exact ⟨.inr, fun z => z.resolve_left fun z => h z.1⟩
    rw [e, ih]
    constructor
    · rintro (⟨h1, rfl⟩ | ⟨j, h1, h2⟩)
      · exact ⟨0, rfl, h1⟩
      · exact ⟨j + 1, by simpa using h1, by rw [← testBit_half]; exact h2⟩
    · rintro ⟨j, h1, h2⟩
      cases j with
      | zero => simp at h1; exact .inl ⟨h2, h1.symm⟩
      | succ j => exact .inr ⟨j, by simpa using h1, by rw [testBit_half]; exact h2⟩
theorem subL_sub : ∀ (xs : List α) (m : Nat), (subL xs m).Sublist xs
  | [], _ => .slnil
  | x :: xs, m => by
    show (if m.testBit 0 = true then x :: subL xs (m / 2) else subL xs (m / 2)).Sublist _
    by_cases h : m.testBit 0 = true
    · rw [if_pos h]; exact (subL_sub xs _).cons₂ x
    · rw [if_neg h]; exact (subL_sub xs _).cons x
theorem subL_len (xs : List α) (m : Nat) : (subL xs m).length ≤ xs.length := (subL_sub xs m).length_le
theorem subL_zero : ∀ xs : List α, subL xs 0 = []
  | [] => rfl
  | x :: xs => by
    show (if (0 : Nat).testBit 0 = true then x :: subL xs (0 / 2) else subL xs (0 / 2)) = []
    rw [if_neg (by decide)]; exact subL_zero xs
theorem subL_all (xs : List α) : subL xs (2 ^ xs.length - 1) = xs := by
  have g : ∀ (xs : List α) (m : Nat), (∀ j, j < xs.length → m.testBit j = true) → subL xs m = xs := fun xs => by
    induction xs with
    | nil => intro _ _; rfl
    | cons x xs ih =>
      intro m h
      show (if m.testBit 0 = true then x :: subL xs (m / 2) else subL xs (m / 2)) = _
      rw [if_pos (h 0 (by simp)), ih (m / 2) fun j hj => by rw [testBit_half]; exact h (j + 1) (by simpa using hj)]
  exact g xs _ fun j hj => by rw [Nat.testBit_two_pow_sub_one]; exact decide_eq_true hj
end
/-! families and packings -/
theorem famP_congr {ws as as' : List Int} {n : Nat} : ∀ {i g : Nat}, (∀ j : Nat, j < i → rget as (j : Nat) = rget as' (j : Nat)) → FamP ws as n i g → FamP ws as' n i g
  | 0, _, _, h => h
  | i + 1, g, e, h => by
    obtain ⟨u, k, h1, h2, h3, h4, h5, h6⟩ := h
    exact ⟨u, k, h1, by rw [← e i (Nat.lt_succ_self i)]; exact h2, famP_congr (fun j hj => e j (by omega)) h3, h4, h5, h6⟩
theorem famOk_congr {ws as as' : List Int} {n i f : Nat} (e : ∀ j : Nat, j < i → rget as (j : Nat) = rget as' (j : Nat)) (h : FamOk ws as n i f) : FamOk ws as' n i f :=
  ⟨h.1, fun g => (h.2 g).trans ⟨famP_congr e, famP_congr fun j hj => (e j hj).symm⟩⟩
theorem rget_app {as : List Int} {a : Int} {j : Nat} (h : j < as.length) : rget (as ++ [a]) (j : Nat) = rget as (j : Nat) := by
  unfold rget
  rw [Int.toNat_natCast, List.getD, List.getD, List.getElem?_append_left h]
theorem rget_end (as : List Int) (a : Int) : rget (as ++ [a]) ((as.length : Nat) : Int) = a := by
  unfold rget
  rw [Int.toNat_natCast, List.getD, List.getElem?_append_right (Nat.le_refl _), Nat.sub_self]; rfl
theorem fam_pk {ws as : List Int} (h : FamP ws as ws.length as.length (2 ^ ws.length - 1)) : ∃ idx, isPk ws as idx := by
  have g : ∀ k, k ≤ as.length → ∃ idx left, PutOk ws as idx (as.length - k) left := fun k => by
    induction k with
    | zero => exact fun _ => ⟨_, _, put_first h⟩
    | succ k ih =>
      intro hk
      obtain ⟨idx, left, hp⟩ := ih (by omega)
      obtain ⟨i, hi⟩ : ∃ i, i = as.length - (k + 1) := ⟨_, rfl⟩
      have e : as.length - k = i + 1 := by omega
      rw [e] at hp
      rw [← hi]
      obtain ⟨u, y, u1, u2, u3, u4, u5, hl⟩ := hp.2.2.1
      subst hl
      have hp3 := part_of_add u5
      exact ⟨_, _, put_succ (by omega) hp u1 u2 hp3 (by rw [show y + u - u = y by omega]; exact u3)⟩
  obtain ⟨idx, left, hp⟩ := g as.length (Nat.le_refl _)
  rw [Nat.sub_self] at hp
  exact ⟨idx, put_end hp⟩
theorem hpk_fam {ws as : List Int} : hpk ws as = true ↔ FamP ws as ws.length as.length (2 ^ ws.length - 1) :=
  hpk_true.trans ⟨fun ⟨_, h⟩ => fam_all h, fam_pk⟩
/-- the test of a family: all seats -/
theorem fam_full {ws as : List Int} {f : Nat} (h : FamOk ws as ws.length as.length f) : f.testBit (2 ^ ws.length - 1) = hpk ws as := by
  rw [Bool.eq_iff_iff, h.2, hpk_fam]
theorem hpk_more {ws as : List Int} {a : Int} (ha : 0 ≤ a) (h : hpk ws as = true) : hpk ws (as ++ [a]) = true := by
  obtain ⟨idx, hi⟩ := hpk_true.mp h
  exact hpk_true.mpr ⟨idx, pk_more ha hi⟩
/-- a seat that fits nowhere -/
theorem hpk_none {ws as : List Int} {w : Int} (hw : ∀ x ∈ ws, 0 ≤ x) (hm : w ∈ ws) (h0 : 0 < w) (h : ∀ a ∈ as, a < w) : hpk ws as = false := by
  refine hpk_false.mpr fun idx hi => ?_
  obtain ⟨j, hj⟩ := List.mem_iff_getElem?.mp hm
  have hjl := (List.getElem?_eq_some_iff.mp hj).1
  have hji : j < idx.length := by rw [hi.1]; exact hjl
  have hin := hi.2.1 (rget idx (j : Nat)) (by rw [rget_in hji]; exact List.getElem_mem hji)
  obtain ⟨k, hk⟩ : ∃ k : Nat, rget idx (j : Nat) = (k : Int) := ⟨(rget idx (j : Nat)).toNat, by omega⟩
  have hkl : k < as.length := by omega
  have h3 := ((isPk_iff.mp hi).2.2) k hkl
  have ha := h (rget as (k : Nat)) (by rw [rget_in hkl]; exact List.getElem_mem hkl)
  have hz : w ≤ zsum (ws.zip idx) (k : Int) := by
    have ez : (ws.zip idx)[j]? = some (w, (k : Int)) := by
      rw [List.getElem?_zip_eq_some]
      exact ⟨hj, by rw [rget_some hji, hk]⟩
    have g : ∀ (l : List (Int × Int)) (j : Nat), (∀ p ∈ l, 0 ≤ p.1) → l[j]? = some (w, (k : Int)) → w ≤ zsum l (k : Int) := fun l => by
      induction l with
      | nil => intro j _ e; simp at e
      | cons p l ih =>
        intro j hp e
        rw [zsum_cons]
        have p0 := hp p List.mem_cons_self
        have nn : ∀ (l : List (Int × Int)), (∀ p ∈ l, 0 ≤ p.1) → 0 ≤ zsum l (k : Int) := fun l => by
          induction l with
          | nil => intro _; exact Int.le_refl _
          | cons p l ih =>
            intro hp
            rw [zsum_cons]
            have p0 := hp p List.mem_cons_self
            have := ih fun q hq => hp q (List.mem_cons_of_mem _ hq)
            split <;> omega
        cases j with
        | zero =>
          simp at e
          subst e
          have := nn l fun q hq => hp q (List.mem_cons_of_mem _ hq)
          rw [if_pos rfl]
          show w ≤ w + _
          omega
        | succ j =>
          have := ih j (fun q hq => hp q (List.mem_cons_of_mem _ hq)) (by simpa using e)
          split <;> omega
    exact g _ j (fun p hp => hw _ (List.of_mem_zip hp).1) ez
  omega
/-- fewer rooms, less -/
theorem hpk_sub {ws as bs : List Int} (hw : ∀ x ∈ ws, 0 ≤ x) (h0 : ∀ b ∈ bs, 0 ≤ b) (hs : as.Sublist bs) (h : hpk ws as = true) : hpk ws bs = true := by
  obtain ⟨cs, hc⟩ : ∃ cs, bs.Perm (as ++ cs) := by
    clear h h0 hw
    induction hs with
    | slnil => exact ⟨[], .refl _⟩
    | cons x _ ih =>
      obtain ⟨cs, hc⟩ := ih
      exact ⟨x :: cs, (hc.cons x).trans List.perm_middle.symm⟩
    | cons_cons x _ ih =>
      obtain ⟨cs, hc⟩ := ih
      exact ⟨cs, hc.cons x⟩
  have hb0 : ∀ c ∈ cs, 0 ≤ c := fun c hm => h0 c (hc.mem_iff.mpr (List.mem_append_right _ hm))
  have ha0 : ∀ a ∈ as, 0 ≤ a := fun c hm => h0 c (hc.mem_iff.mpr (List.mem_append_left _ hm))
  have g : ∀ (cs as : List Int), (∀ c ∈ cs, 0 ≤ c) → hpk ws as = true → hpk ws (as ++ cs) = true := fun cs => by
    induction cs with
    | nil => intro as _ h; rw [List.append_nil]; exact h
    | cons c cs ih =>
      intro as hn h
      have := ih (as ++ [c]) (fun d hd => hn d (List.mem_cons_of_mem _ hd)) (hpk_more (hn c List.mem_cons_self) h)
      rw [List.append_assoc] at this
      exact this
  rw [hpk_perm hw h0 (.refl _) hc]
  exact g cs as hb0 h
end DL

namespace DL
open PySem PySem.Spec PyProof.Rows L2
/-! lightness: what each def promises -/
abbrev Cq := List Int × List Int
def dCs (C : Addr) (cs : List Cq) : D := .lst (cs.map fun p => dC C p.1 p.2)
/-- whether the sides of a mask are heavy for one of the councils -/
noncomputable def hvM (cs : List Cq) (ss : List Sd2) (m : Nat) : Bool := cs.any fun p => hpk p.1 (allows p.1 p.2 (subL ss m))
noncomputable def hvy (cs : List Cq) (ss : List Sd2) : Bool := cs.any fun p => hpk p.1 (allows p.1 p.2 ss)
def okLs (cs : List Cq) (ss : List Sd2) : Prop := cs.length ≤ 5 ∧ ss.length ≤ 12 ∧ ∀ p ∈ cs, okQ p.1 p.2 ∧ ∀ s ∈ ss, 0 ≤ s.1 ∧ s.1 < p.2.length
def noRoom (ws as : List Int) : Prop := ∃ w ∈ ws, 0 < w ∧ ∀ a ∈ as, a < w
def fmD : Option (List Nat) → D
  | none => .non
  | some fs => .lst (fs.map natD)
def grF : Option (List Nat) → List (List Nat × List Nat) → List Nat → Option (List Nat)
  | none, _, _ => none
  | some fs, ps, wh =>
    let gs := List.zipWith (fun f p => grownN f p.1 p.2) fs ps
    if (List.zipWith (fun g w => g.testBit w) gs wh).any id = true then none else some gs
def grOk : Option (List Nat) → List (List Nat × List Nat) → List Nat → Prop
  | none, _, _ => True
  | some fs, ps, wh => fs.length ≤ 5 ∧ fs.length = ps.length ∧ fs.length = wh.length ∧ (∀ f ∈ fs, f < 2 ^ 128) ∧ (∀ p ∈ ps, p.2.length ≤ 128 ∧ ∀ g ∈ p.2, g ≤ 128) ∧ ∀ w ∈ wh, w ≤ 127
def sortSd (ss : List Sd2) : List Sd2 := ss.mergeSort fun a c => leD (encS a) (encS c)
def sortLS (L : List (List Sd2)) : List (List Sd2) := L.mergeSort fun a c => leD (dS a) (dS c)
def moreM (m n : Nat) : List Nat := ((List.range n).filter fun j => !m.testBit j).map fun j => m ||| 2 ^ j
def lessM (m n : Nat) : List Nat := ((List.range n).filter fun j => m.testBit j).map fun j => m - 2 ^ j
noncomputable def lightL (cs : List Cq) (ss : List Sd2) : List (List Sd2) :=
  sortLS ((((List.range (2 ^ ss.length)).filter fun m => !hvM cs (sortSd ss) m).filter fun m => (moreM m ss.length).all fun k => hvM cs (sortSd ss) k).map (subL (sortSd ss)))
noncomputable def heavyL (cs : List Cq) (ss : List Sd2) : List (List Sd2) :=
  sortLS ((((List.range (2 ^ ss.length)).filter fun m => hvM cs (sortSd ss) m).filter fun m => !(lessM m ss.length).any fun k => hvM cs (sortSd ss) k).map (subL (sortSd ss)))
abbrev sp_can_fill (K : PySem.W.Frag) (_ : Addr) : Sp := Sx K (fun a : List Int × List Int => [dI a.1, dI a.2]) (fun _ a => a.1.length ≤ 7 ∧ a.2.length ≤ 100) fun a x => x = .bl (hpk a.1 a.2)
abbrev sp_has_room_for_each_seat (K : PySem.W.Frag) (C : Addr) : Sp := Sx K (fun a : Cq × List Sd2 => [dC C a.1.1 a.1.2, dS a.2]) (fun _ a => okQ a.1.1 a.1.2 ∧ okSd a.1.2 a.2) fun a x => ∃ c, x = .bl c ∧ (c = false → noRoom a.1.1 (allows a.1.1 a.1.2 a.2))
abbrev sp_grown_families (K : PySem.W.Frag) (_ : Addr) : Sp := Sx K (fun a : Option (List Nat) × List (List Nat × List Nat) × List Nat => [fmD a.1, .lst (a.2.1.map fun p => dF p.1 p.2), .lst (a.2.2.map natD)]) (fun _ a => grOk a.1 a.2.1 a.2.2) fun a x => x = fmD (grF a.1 a.2.1 a.2.2)
abbrev sp_members (K : PySem.W.Frag) (_ : Addr) : Sp := Sx K (fun a : List D × Nat => [.lst a.1, natD a.2]) (fun _ a => a.1.length ≤ 100) fun a x => x = .lst (subL a.1 a.2)
abbrev sp_one_more (K : PySem.W.Frag) (_ : Addr) : Sp := Sx K (fun a : Nat × Nat => [natD a.1, natD a.2]) (fun _ a => a.2 ≤ 100) fun a x => x = .lst ((moreM a.1 a.2).map natD)
abbrev sp_one_less (K : PySem.W.Frag) (_ : Addr) : Sp := Sx K (fun a : Nat × Nat => [natD a.1, natD a.2]) (fun _ a => a.2 ≤ 100) fun a x => x = .lst ((lessM a.1 a.2).map natD)
abbrev sp_heavy_table (K : PySem.W.Frag) (C : Addr) : Sp := Sx K (fun a : List Cq × List Sd2 => [dCs C a.1, dS a.2]) (fun _ a => okLs a.1 a.2) fun a x => x = .lst ((List.range (2 ^ a.2.length)).map fun m => D.bl (hvM a.1 a.2 m))
abbrev sp_is_light (K : PySem.W.Frag) (C : Addr) : Sp := Sx K (fun a : List Cq × List Sd2 => [dCs C a.1, dS a.2]) (fun _ a => okLs a.1 a.2) fun a x => x = .bl (!hvy a.1 a.2)
abbrev sp_listed (K : PySem.W.Frag) (_ : Addr) : Sp := Sx K (fun a : List Sd2 × List Nat => [dS a.1, .lst (a.2.map natD)]) (fun _ a => a.1.length ≤ 100 ∧ a.2.length ≤ 10000) fun a x => x = .lst ((sortLS (a.2.map (subL a.1))).map dS)
abbrev sp_light_sets (K : PySem.W.Frag) (C : Addr) : Sp := Sx K (fun a : List Cq × List Sd2 => [dCs C a.1, dS a.2]) (fun _ a => okLs a.1 a.2) fun a x => x = .lst ((lightL a.1 a.2).map dS)
abbrev sp_heavy_sets (K : PySem.W.Frag) (C : Addr) : Sp := Sx K (fun a : List Cq × List Sd2 => [dCs C a.1, dS a.2]) (fun _ a => okLs a.1 a.2) fun a x => x = .lst ((heavyL a.1 a.2).map dS)
end DL

namespace DL
open PySem PySem.Spec PyProof.Rows L2
def t_can_fill (K : PySem.W.Frag) (C : Addr) : TS :=
  (tSeq (tAsg (tC (.int 1)) (gName 2))
    (tSeq (tFor (iList K (tCall (sp_fitting_groups K C) [] E0 (tCons (tVar 0) (tCons (tVar 1) tNil)))) (gName 3)
    (tAsg (tCall (sp_grown K C) [] E0 (tCons (tVar 2) (tCons (tVar 3) tNil))) (gName 2)))
    (tRet (tCall (sp_holds_all K C) [] E0 (tCons (tVar 2) (tCons (tCB (DL.rLen K) (tCons (tVar 0) tNil)) tNil))))))
def t_heavy_table (K : PySem.W.Frag) (C : Addr) : TS :=
  (tSeq (tAsg (tLc (iList K (tVar 0)) (gName 8) (tB (tCall (sp_has_room_for_each_seat K C) [] E0 (tCons (tVar 8) (tCons (tVar 1) tNil)))) (tVar 8) [8]) (gName 2))
    (tSeq (tAsg (tLc (iList K (tVar 2)) (gName 8) tYes (tCall (sp_all_seats K C) [] E0 (tCons (tCB (GL.rLenI C (sp_C_len K C) E0) (tCons (tVar 8) tNil)) tNil)) [8]) (gName 3))
    (tSeq (tAsg (tLc (iList K (tVar 2)) (gName 8) tYes (tCall (sp_fitting_groups K C) [] E0 (tCons (tMeth C "weights" (sp_C_weights K C) [] E0 (tVar 8) tNil) (tCons (tCall (sp_allowances_of K C) [] E0 (tCons (tVar 8) (tCons (tVar 1) tNil))) tNil))) [8]) (gName 4))
    (tSeq (tAsg (tLst (tCons (tOp rRep (tLst (tCons (tC (.int 1)) tNil)) (tCB (DL.rLen K) (tCons (tVar 2) tNil))) tNil)) (gName 5))
    (tSeq (tFor (iRng1 (tCons (tCB (DL.rLen K) (tCons (tVar 1) tNil)) tNil)) (gName 6)
    (tSeq (tAsg (tLc (iList K (tVar 4)) (gName 10) tYes (tOp (rIx K) (tVar 10) (tVar 6)) [10]) (gName 7))
    (tAsg (tOp rCat (tVar 5) (tLc (iList K (tVar 5)) (gName 9) tYes (tCall (sp_grown_families K C) [] E0 (tCons (tVar 9) (tCons (tVar 7) (tCons (tVar 3) tNil)))) [9])) (gName 5))))
    (tRet (tLc (iList K (tVar 5)) (gName 9) tYes (tOp rIsN (tVar 9) (tC .non)) [9])))))))
def t_has_room_for_each_seat (K : PySem.W.Frag) (C : Addr) : TS :=
  (tRet (tOp (rI0 fun i j => .bl (decide (i ≤ j))) (tCB (rMax K) (tCons (tMeth C "weights" (sp_C_weights K C) [] E0 (tVar 0) tNil) tNil)) (tCKw (GL.rMaxDf K) (tCons (tCall (sp_allowances_of K C) [] E0 (tCons (tVar 0) (tCons (tVar 1) tNil))) tNil) (tCons (tC (.int 0)) tNil))))
def t_grown_families (K : PySem.W.Frag) (C : Addr) : TS :=
  (tSeq (tIfS (tTest (tOp rIsN (tVar 0) (tC .non)))
    (tRet (tC .non))
    tNext)
    (tSeq (tAsg (tLc (iZip K (tCons (tVar 0) (tCons (tVar 1) tNil))) (gTup K 2 (gCons (gName 4) (gCons (gName 5) gNil))) tYes (tCall (sp_grown K C) [] E0 (tCons (tVar 4) (tCons (tVar 5) tNil))) [4, 5]) (gName 3))
    (tSeq (tIfS (tB (tCB (GL.rAnyI K) (tCons (tLc (iZip K (tCons (tVar 3) (tCons (tVar 2) tNil))) (gTup K 2 (gCons (gName 4) (gCons (gName 6) gNil))) tYes (tOp GL.rOdd (tOp GL.rShrN (tVar 4) (tVar 6)) (tC (.int 1))) [4, 6]) tNil)))
    (tRet (tC .non))
    tNext)
    (tRet (tVar 3)))))
def t_members (K : PySem.W.Frag) (C : Addr) : TS :=
  (tRet (tLc (iEnum K (tCons (tVar 0) tNil)) (gTup K 2 (gCons (gName 2) (gCons (gName 3) gNil))) (tTruI K (tOp GL.rOdd (tOp GL.rShrN (tVar 1) (tVar 2)) (tC (.int 1)))) (tVar 3) [2, 3]))
def t_one_more (K : PySem.W.Frag) (C : Addr) : TS :=
  (tRet (tLc (iRng1 (tCons (tVar 1) tNil)) (gName 2) (tNot (tTruI K (tOp GL.rOdd (tOp GL.rShrN (tVar 0) (tVar 2)) (tC (.int 1))))) (tOp GL.rOrN (tVar 0) (tOp GL.rOneShl (tC (.int 1)) (tVar 2))) [2]))
def t_one_less (K : PySem.W.Frag) (C : Addr) : TS :=
  (tRet (tLc (iRng1 (tCons (tVar 1) tNil)) (gName 2) (tTruI K (tOp GL.rOdd (tOp GL.rShrN (tVar 0) (tVar 2)) (tC (.int 1)))) (tOp (rI0 fun i j => .int (i - j)) (tVar 0) (tOp GL.rOneShl (tC (.int 1)) (tVar 2))) [2]))
def t_is_light (K : PySem.W.Frag) (C : Addr) : TS :=
  (tRet (tNotV (tCB (rAny K) (tCons (tLc (iList K (tVar 0)) (gName 2) tYes (tCall (sp_can_fill K C) [] E0 (tCons (tMeth C "weights" (sp_C_weights K C) [] E0 (tVar 2) tNil) (tCons (tCall (sp_allowances_of K C) [] E0 (tCons (tVar 2) (tCons (tVar 1) tNil))) tNil))) [2]) tNil))))
def t_light_sets (K : PySem.W.Frag) (C : Addr) : TS :=
  (tSeq (tAsg (tCB (rSrt K) (tCons (tVar 1) tNil)) (gName 2))
    (tSeq (tAsg (tCall (sp_heavy_table K C) [] E0 (tCons (tVar 0) (tCons (tVar 2) tNil))) (gName 3))
    (tSeq (tAsg (tLc (iRng1 (tCons (tCB (DL.rLen K) (tCons (tVar 3) tNil)) tNil)) (gName 6) (tNot (tB (tOp (rIx K) (tVar 3) (tVar 6)))) (tVar 6) [6]) (gName 4))
    (tSeq (tAsg (tLc (iList K (tVar 4)) (gName 6) (tB (tCB (rAll K) (tCons (tLc (iList K (tCall (sp_one_more K C) [] E0 (tCons (tVar 6) (tCons (tCB (DL.rLen K) (tCons (tVar 2) tNil)) tNil)))) (gName 7) tYes (tOp (rIx K) (tVar 3) (tVar 7)) [7]) tNil))) (tVar 6) [6]) (gName 5))
    (tRet (tCall (sp_listed K C) [] E0 (tCons (tVar 2) (tCons (tVar 5) tNil))))))))
def t_heavy_sets (K : PySem.W.Frag) (C : Addr) : TS :=
  (tSeq (tAsg (tCB (rSrt K) (tCons (tVar 1) tNil)) (gName 2))
    (tSeq (tAsg (tCall (sp_heavy_table K C) [] E0 (tCons (tVar 0) (tCons (tVar 2) tNil))) (gName 3))
    (tSeq (tAsg (tLc (iRng1 (tCons (tCB (DL.rLen K) (tCons (tVar 3) tNil)) tNil)) (gName 6) (tB (tOp (rIx K) (tVar 3) (tVar 6))) (tVar 6) [6]) (gName 4))
    (tSeq (tAsg (tLc (iList K (tVar 4)) (gName 6) (tNot (tB (tCB (rAny K) (tCons (tLc (iList K (tCall (sp_one_less K C) [] E0 (tCons (tVar 6) (tCons (tCB (DL.rLen K) (tCons (tVar 2) tNil)) tNil)))) (gName 7) tYes (tOp (rIx K) (tVar 3) (tVar 7)) [7]) tNil)))) (tVar 6) [6]) (gName 5))
    (tRet (tCall (sp_listed K C) [] E0 (tCons (tVar 2) (tCons (tVar 5) tNil))))))))
def t_listed (K : PySem.W.Frag) (C : Addr) : TS :=
  (tRet (tCB (rSrt K) (tCons (tLc (iList K (tVar 1)) (gName 2) tYes (tCall (sp_members K C) [] E0 (tCons (tVar 0) (tCons (tVar 2) tNil))) [2]) tNil)))
end DL

namespace DL
open PySem PySem.Spec PyProof.Rows L2
section
variable {K : PySem.W.Frag} {C : Addr} {b : Bg} {P : Po} {E : Env'} {te : TE} {tt : TT}
/-- a comprehension with a filter, one name -/
theorem wpl_flt {wi : TI} {i : Nat} (p : Nat → Bool) (f : Nat → D) {Φ : List D → Prop} (h : wpi K b wi E fun ds => ds.length ≤ 100000 ∧
    (∀ j d, ds[j]? = some d → wpt K b tt ((wipeE E [i]).set i (.d d)) fun r => r = p j ∧ (p j = true → wpe K b te ((wipeE E [i]).set i (.d d)) fun y => y = f j)) ∧ Φ (((List.range ds.length).filter p).map f)) :
    wpl K b (tLc wi (gName i) tt te [i]) E Φ := by
  refine wpl_lc fun H0 F H σ w e Q k => h H0 F H σ w e Q fun J F' H' ds s w' it q => k J F' H' ds s w' it ⟨q.1, fun n acc => acc = ((List.range n).filter p).map f, rfl, fun j d acc hd hl hI => ?_, fun acc hI => by subst hI; exact q.2.2⟩
  subst hI
  refine wpg_name (by simp) ((q.2.1 j d hd).mono fun r hr => ?_)
  obtain ⟨rfl, hy⟩ := hr
  refine ifB (fun z => (hy z).mono fun y hy' => ?_) (fun z => ?_)
  · show _ = _
    rw [filt_snoc, z, if_pos rfl, hy']
  · show _ = _
    rw [filt_snoc, z, if_neg Bool.false_ne_true, List.append_nil]
/-- .. two names -/
theorem wpl_flt2 {wi : TI} {i1 i2 : Nat} (p : Nat → Bool) (f : Nat → D) {Φ : List D → Prop} (h : wpi K b wi E fun ds => ds.length ≤ 100000 ∧
    (∀ j d, ds[j]? = some d → ∃ x y, d = .tup [x, y] ∧ wpt K b tt (((wipeE E [i1, i2]).set i1 (.d x)).set i2 (.d y)) fun r => r = p j ∧ (p j = true → wpe K b te (((wipeE E [i1, i2]).set i1 (.d x)).set i2 (.d y)) fun y => y = f j)) ∧ Φ (((List.range ds.length).filter p).map f)) :
    wpl K b (tLc wi (gTup K 2 (gCons (gName i1) (gCons (gName i2) gNil))) tt te [i1, i2]) E Φ := by
  refine wpl_lc fun H0 F H σ w e Q k => h H0 F H σ w e Q fun J F' H' ds s w' it q => k J F' H' ds s w' it ⟨q.1, fun n acc => acc = ((List.range n).filter p).map f, rfl, fun j d acc hd hl hI => ?_, fun acc hI => by subst hI; exact q.2.2⟩
  subst hI
  obtain ⟨x, y, rfl, hw⟩ := q.2.1 j d hd
  refine wpg_tup (by rfl) (wpgs_cons (wpg_name (by simp) (wpgs_cons (wpg_name (by simp) (wpgs_nil (hw.mono fun r hr => ?_))))))
  obtain ⟨rfl, hy⟩ := hr
  refine ifB (fun z => (hy z).mono fun y hy' => ?_) (fun z => ?_)
  · show _ = _
    rw [filt_snoc, z, if_pos rfl, hy']
  · show _ = _
    rw [filt_snoc, z, if_neg Bool.false_ne_true, List.append_nil]
theorem subL_range {α : Type} (xs : List α) (m : Nat) (d : α) : subL xs m = ((List.range xs.length).filter fun j => m.testBit j).map fun j => xs.getD j d := by
  have g : ∀ n, n ≤ xs.length → subL (xs.take n) m = ((List.range n).filter fun j => m.testBit j).map fun j => xs.getD j d := fun n => by
    induction n with
    | zero => intro _; rfl
    | succ n ih =>
      intro h
      have hn : n < xs.length := by omega
      have en : xs[n]? = some xs[n] := List.getElem?_eq_getElem hn
      rw [take_succ' en, subL_snoc, ih (by omega), filt_snoc, List.length_take, Nat.min_eq_left (by omega), List.getD, en]
      rfl
  have := g xs.length (Nat.le_refl _)
  rw [List.take_length] at this
  exact this
theorem w_members {ds : List D} {m : Nat} (h : ds.length ≤ 100) (k : P.rt (.lst (subL ds m))) : wps K b (t_members K C) [.d (.lst ds), .d (natD m), .u, .u] P := by
  unfold t_members
  refine wps_ret (wpe_l (wpl_flt2 (fun j => m.testBit j) (fun j => ds.getD j .non) (wpi_enum (wpa_cons (wpe_var (by rfl) (wpa_nil ⟨_, rfl, by rw [enumD_len]; omega, fun j d hd => ?_, ?_⟩))))))
  · rw [enumD_get] at hd
    obtain ⟨x, hx, rfl⟩ := Option.map_eq_some_iff.mp hd
    exact ⟨_, _, rfl, wpt_bit (wpe_var (by rfl) ⟨m, rfl, wpe_var (by rfl) ⟨j, rfl, rfl, fun _ => wpe_var (by rfl) (by rw [List.getD, hx]; rfl)⟩⟩)⟩
  · rw [enumD_len, ← subL_range]; exact k
theorem w_one_more {m n : Nat} (h : n ≤ 100) (k : P.rt (.lst ((moreM m n).map natD))) : wps K b (t_one_more K C) [.d (natD m), .d (natD n), .u] P := by
  unfold t_one_more
  refine wps_ret (wpe_l (wpl_flt (fun j => !m.testBit j) (fun j => natD (m ||| 2 ^ j)) (wpi_rng1 (wpa_cons (wpe_var (by rfl) (wpa_nil ⟨(n : Int), rfl, by omega, by omega, by rw [rangeD_len]; omega, fun j d hd => ?_, ?_⟩))))))
  · obtain ⟨hj, rfl⟩ := rangeD_at hd
    rw [Int.zero_add]
    refine wpt_not (wpt_bit (wpe_var (by rfl) ⟨m, rfl, wpe_var (by rfl) ⟨j, rfl, rfl, fun _ => ?_⟩⟩))
    exact wpe_op (wpe_var (by rfl) (wpe_op (wpe_int (wpe_var (by rfl) (rd_oneShlM (k := j) (by omega) (rd_orN rfl))))))
  · rw [rangeD_len, Int.toNat_natCast]
    have e : ((List.range n).filter fun j => !m.testBit j).map (fun j => natD (m ||| 2 ^ j)) = (moreM m n).map natD := by unfold moreM; rw [List.map_map]; rfl
    rw [e]; exact k
theorem w_one_less {m n : Nat} (h : n ≤ 100) (k : P.rt (.lst ((lessM m n).map natD))) : wps K b (t_one_less K C) [.d (natD m), .d (natD n), .u] P := by
  unfold t_one_less
  refine wps_ret (wpe_l (wpl_flt (fun j => m.testBit j) (fun j => natD (m - 2 ^ j)) (wpi_rng1 (wpa_cons (wpe_var (by rfl) (wpa_nil ⟨(n : Int), rfl, by omega, by omega, by rw [rangeD_len]; omega, fun j d hd => ?_, ?_⟩))))))
  · obtain ⟨hj, rfl⟩ := rangeD_at hd
    rw [Int.zero_add]
    refine wpt_bit (wpe_var (by rfl) ⟨m, rfl, wpe_var (by rfl) ⟨j, rfl, rfl, fun z => ?_⟩⟩)
    have hle : 2 ^ j ≤ m := Nat.ge_two_pow_of_testBit z
    refine wpe_op (wpe_var (by rfl) (wpe_op (wpe_int (wpe_var (by rfl) (rd_oneShlM (k := j) (by omega) (rd_I0i ?_))))))
    show D.int ((m : Int) - ((2 ^ j : Nat) : Int)) = natD (m - 2 ^ j)
    unfold natD
    congr 1
    omega
  · rw [rangeD_len, Int.toNat_natCast]
    have e : ((List.range n).filter fun j => m.testBit j).map (fun j => natD (m - 2 ^ j)) = (lessM m n).map natD := by unfold lessM; rw [List.map_map]; rfl
    rw [e]; exact k
theorem w_can_fill {ws as : List Int} (h : ws.length ≤ 7) (ha : as.length ≤ 100) (k : P.rt (.bl (hpk ws as))) : wps K b (t_can_fill K C) [.d (dI ws), .d (dI as), .u, .u] P := by
  unfold t_can_fill
  have hp := pow7 h
  have e2l : ((ws, as) : List Int × List Int).2.length = as.length := rfl
  have h128 : 2 ^ 2 ^ ws.length ≤ 2 ^ 128 := Nat.pow_le_pow_right (by decide) hp
  have fitOk : ∀ (m : Int), (fitG ws ws.length m).length ≤ 128 ∧ ∀ g ∈ fitG ws ws.length m, g ≤ 128 := fun m => by
    refine ⟨?_, fun g hg => by have := (fitG_mem.mp hg).1; omega⟩
    have := List.length_filter_le (fun g => decide (wsumN ws ws.length g ≤ m)) (List.range (2 ^ ws.length))
    rw [List.length_range] at this
    unfold fitG; omega
  refine wps_seq (wps_asg (wpe_int ?_))
  refine wps_seq (wps_for [3] (wpi_list (wpe_callx (wpa_cons (wpe_var (x := dI ws) (by rfl) (wpa_cons (wpe_var (x := dI as) (by rfl) (wpa_nil ⟨(ws, as), rfl, ⟨h, ha⟩, fun x hx => ?_⟩))))))))
  obtain ⟨A, hA, rfl⟩ := hx
  refine ⟨_, rfl, fun i E => ∃ (f : Nat) (a3 : En), FamOk ws as ws.length i f ∧ E = [.d (dI ws), .d (dI as), .d (natD f), a3], ⟨1, _, fam_zero ws as ws.length, rfl⟩, fun i d E hd hI => ?_, fun E hI => ?_⟩
  · obtain ⟨f, a3, hf, rfl⟩ := hI
    obtain ⟨m, hm, rfl, _⟩ := map_mem hd
    have em : m = rget as (i : Nat) := by unfold rget; rw [Int.toNat_natCast, List.getD, hm]; rfl
    refine wpg_name (by simp) ?_
    refine wps_asg (wpe_callx (wpa_cons (wpe_var (x := natD f) (by rfl) (wpa_cons (wpe_var (by rfl) (wpa_nil ⟨(f, A, fitG ws ws.length m), rfl, ⟨Nat.lt_of_lt_of_le hf.1 h128, fitOk m⟩, fun x hx => ?_⟩))))))
    subst hx
    exact ⟨_, .d (dF A (fitG ws ws.length m)), by rw [em]; exact fam_succ hA hf, rfl⟩
  · obtain ⟨f, a3, hf, rfl⟩ := hI
    rw [List.length_map, e2l] at hf
    refine wps_ret (wpe_callx (wpa_cons (wpe_var (x := natD f) (by rfl) (wpa_cons (wpe_cb (wpa_cons (wpe_var (x := dI ws) (by rfl) (wpa_nil (rc_lenL ?_))))))))) 
    rw [List.length_map]
    refine wpa_nil ⟨(f, ws.length), rfl, h, fun x hx => ?_⟩
    rw [hx]
    show P.rt (.bl (f.testBit (2 ^ ws.length - 1)))
    rw [fam_full hf]; exact k
theorem w_is_light {cs : List Cq} {ss : List Sd2} (h : okLs cs ss) (k : P.rt (.bl (!hvy cs ss))) : wps K b (t_is_light K C) [.d (dCs C cs), .d (dS ss), .u] P := by
  unfold t_is_light
  have hl := h.1
  have hsl := h.2.1
  refine wps_ret (wpe_not (wpe_cb (wpa_cons (wpe_l (wpl_gen1 (R := fun j y => ∃ c : Bool, y = .bl c ∧ ∃ p, cs[j]? = some p ∧ c = hpk p.1 (allows p.1 p.2 ss)) (wpi_list (wpe_var (x := dCs C cs) (by rfl) ⟨_, rfl, by rw [List.length_map]; omega, fun j d hd => ?_, fun acc hl hR => ?_⟩)))))))
  · obtain ⟨p, hp, rfl, hm⟩ := map_mem hd
    obtain ⟨ok, oks⟩ := h.2.2 p hm
    refine wpe_callx (wpa_cons (wpe_l (wpl_methy (wpe_var (x := dC C p.1 p.2) (by rfl) ⟨_, _, rfl, no_weights, wpa_nil ⟨p, rfl, trivial, fun es he => ?_⟩⟩))))
    subst he
    refine wpa_cons (wpe_callx (wpa_cons (wpe_var (x := dC C p.1 p.2) (by rfl) (wpa_cons (wpe_var (x := dS ss) (by rfl) (wpa_nil ⟨(p, ss), rfl, ⟨by show ss.length ≤ 100; omega, oks⟩, fun x hx => ?_⟩))))))
    subst hx
    exact wpa_nil ⟨(p.1, allows p.1 p.2 ss), rfl, ⟨ok.1.2, by show (allows p.1 p.2 ss).length ≤ 100; unfold allows; rw [List.length_map]; omega⟩, fun x hx => ⟨_, hx, p, hp, rfl⟩⟩
  · obtain ⟨bs, rfl, hbs⟩ := maps_of hR
    rw [List.length_map, List.length_map] at hl
    refine wpa_nil (rc_any ⟨_, rfl, ?_⟩)
    have e : bs.any id = hvy cs ss := by
      have : bs = cs.map fun p => hpk p.1 (allows p.1 p.2 ss) := by
        refine list_of_get (by rw [hl, List.length_map]) fun j y z => ?_
        obtain ⟨p, hp, rfl⟩ := hbs j y z
        rw [List.getElem?_map, hp]; rfl
      rw [this, List.any_map]; rfl
    rw [e]; exact k
theorem w_has_room_for_each_seat {p : Cq} {ss : List Sd2} (h : okQ p.1 p.2) (hs : okSd p.2 ss) (k : ∀ c, (c = false → noRoom p.1 (allows p.1 p.2 ss)) → P.rt (.bl c)) : wps K b (t_has_room_for_each_seat K C) [.d (dC C p.1 p.2), .d (dS ss)] P := by
  obtain ⟨ws, qs⟩ := p
  have h' : okQ ws qs := h
  have hs' : okSd qs ss := hs
  have hw2 : 2 ≤ ws.length := h'.1.1
  have hws : ∀ w ∈ ws, 1 ≤ w := fun w hm => (h'.2.2.1 w hm).1
  unfold t_has_room_for_each_seat
  refine wps_ret (wpe_op (wpe_cb (wpa_cons (wpe_l (wpl_methy (wpe_var (x := dC C ws qs) (by rfl) ⟨_, _, rfl, no_weights, wpa_nil ⟨(ws, qs), rfl, trivial, fun es he => ?_⟩⟩))))))
  subst he
  refine wpa_nil (rcMaxL (by show 0 < ws.length; omega) fun m hm hmax => ?_)
  refine wpe_maxDf (wpe_callx (wpa_cons (wpe_var (x := dC C ws qs) (by rfl) (wpa_cons (wpe_var (x := dS ss) (by rfl) (wpa_nil ⟨((ws, qs), ss), rfl, hs', fun x hx => ?_⟩))))))
  subst hx
  refine ⟨allows ws qs ss, rfl, wpe_int ⟨0, rfl, fun z => rd_I0b (k _ fun hc => ⟨m, hm, by have := hws m hm; omega, fun a ha => ?_⟩), fun a ha hamax => rd_I0b (k _ fun hc => ⟨m, hm, by have := hws m hm; omega, fun x hx => ?_⟩)⟩⟩
  · have ha' : a ∈ allows ws qs ss := ha
    rw [z] at ha'; cases ha'
  · have := of_decide_eq_false hc
    have := hamax x hx
    omega
theorem zipW_get {α β γ : Type} {f : α → β → γ} {xs : List α} {ys : List β} {j : Nat} {x : α} {y : β} (h1 : xs[j]? = some x) (h2 : ys[j]? = some y) : (List.zipWith f xs ys)[j]? = some (f x y) := by
  rw [List.getElem?_zipWith, h1, h2]
theorem grown_lt {n f : Nat} {A gs : List Nat} : True := trivial
theorem w_grown_families {o : Option (List Nat)} {ps : List (List Nat × List Nat)} {wh : List Nat} (h : grOk o ps wh) (k : P.rt (fmD (grF o ps wh))) :
    wps K b (t_grown_families K C) [.d (fmD o), .d (.lst (ps.map fun p => dF p.1 p.2)), .d (.lst (wh.map natD)), .u, .u, .u, .u] P := by
  unfold t_grown_families
  match o, h, k with
  | none, h, k =>
    exact wps_seq (wps_if (wpt_test (wpe_op (wpe_var (x := .non) (by rfl) (wpe_non (rd_isN ⟨true, rfl, ifT (wps_ret (wpe_non k))⟩))))))
  | some fs, h, k =>
    obtain ⟨h5, hp, hw, hf, hg, hwl⟩ := h
    refine wps_seq (wps_if (wpt_test (wpe_op (wpe_var (x := .lst (fs.map natD)) (by rfl) (wpe_non (rd_isN ⟨false, rfl, ifF (wps_next ?_)⟩))))))
    obtain ⟨gs, hgs⟩ : ∃ gs, gs = List.zipWith (fun f (p : List Nat × List Nat) => grownN f p.1 p.2) fs ps := ⟨_, rfl⟩
    have gl : gs.length = fs.length := by rw [hgs, List.length_zipWith]; omega
    refine wps_seq (wps_asg (wpe_l (wpl_gen2 (R := fun j y => ∃ g, gs[j]? = some g ∧ y = natD g) (wpi_zip (wpa_cons (wpe_var (x := .lst (fs.map natD)) (by rfl) (wpa_cons (wpe_var (x := .lst (ps.map fun p => dF p.1 p.2)) (by rfl) (wpa_nil ⟨_, _, rfl, by rw [zipD_len, List.length_map, List.length_map]; omega, fun j d hd => ?_, fun acc hl hR => ?_⟩)))))))))
    · have hj : j < fs.length := by
        have := (List.getElem?_eq_some_iff.mp hd).1
        rw [zipD_len, List.length_map, List.length_map] at this
        omega
      have hjp : j < ps.length := by omega
      have ef := List.getElem?_eq_getElem hj
      have ep := List.getElem?_eq_getElem hjp
      rw [zipD_get (x := natD fs[j]) (y := dF ps[j].1 ps[j].2) (by rw [List.getElem?_map, ef]; rfl) (by rw [List.getElem?_map, ep]; rfl)] at hd
      cases hd
      have hpm := hg ps[j] (List.getElem_mem hjp)
      refine ⟨_, _, rfl, wpe_callx (wpa_cons (wpe_var (x := natD fs[j]) (by rfl) (wpa_cons (wpe_var (x := dF ps[j].1 ps[j].2) (by rfl) (wpa_nil ⟨(fs[j], ps[j]), rfl, ⟨hf _ (List.getElem_mem hj), hpm⟩, fun x hx => ⟨grownN fs[j] ps[j].1 ps[j].2, ?_, hx⟩⟩)))))⟩
      rw [hgs]
      exact zipW_get ef ep
    have e : acc = gs.map natD := by
      rw [zipD_len, List.length_map, List.length_map] at hl
      refine list_of_get (by rw [hl, List.length_map]; omega) fun i y z => ?_
      obtain ⟨g, hg', rfl⟩ := hR i y z
      rw [List.getElem?_map, hg']; rfl
    subst e
    clear hR hl
    refine wps_seq (wps_if (wpt_B (wpe_cb (wpa_cons (wpe_l (wpl_gen2 (R := fun j y => ∃ n : Int, y = .int n ∧ ∃ g w, gs[j]? = some g ∧ wh[j]? = some w ∧ n = ((g / 2 ^ w % 2 : Nat) : Int)) (wpi_zip (wpa_cons (wpe_var (x := .lst (gs.map natD)) (by rfl) (wpa_cons (wpe_var (x := .lst (wh.map natD)) (by rfl) (wpa_nil ⟨_, _, rfl, by rw [zipD_len, List.length_map, List.length_map]; omega, fun j d hd => ?_, fun acc hl hR => ?_⟩))))))))))))
    · have hj : j < gs.length := by
        have := (List.getElem?_eq_some_iff.mp hd).1
        rw [zipD_len, List.length_map, List.length_map] at this
        omega
      have hjw : j < wh.length := by omega
      have ef := List.getElem?_eq_getElem hj
      have ep := List.getElem?_eq_getElem hjw
      rw [zipD_get (x := natD gs[j]) (y := natD wh[j]) (by rw [List.getElem?_map, ef]; rfl) (by rw [List.getElem?_map, ep]; rfl)] at hd
      cases hd
      exact ⟨_, _, rfl, wpe_op (wpe_op (wpe_var (x := natD gs[j]) (by rfl) (wpe_var (x := natD wh[j]) (by rfl) (rd_shrM (wpe_int (rd_odd ⟨_, rfl, _, _, ef, ep, rfl⟩))))))⟩
    obtain ⟨ns, rfl, hns⟩ := ints_of hR
    rw [zipD_len, List.length_map, List.length_map, List.length_map] at hl
    have e : ns.any (fun n => n != 0) = (List.zipWith (fun g w => g.testBit w) gs wh).any id := by
      have : List.zipWith (fun g w => g.testBit w) gs wh = ns.map fun n => n != 0 := by
        refine (list_of_get (by rw [List.length_map, List.length_zipWith]; omega) fun j y z => ?_).symm
        rw [List.getElem?_map] at z
        obtain ⟨n, hn, rfl⟩ := Option.map_eq_some_iff.mp z
        obtain ⟨g, w, e1, e2, rfl⟩ := hns j n hn
        rw [zipW_get e1 e2, odd_bit]
      rw [this, List.any_map]; rfl
    refine wpa_nil (rc_anyI ⟨_, rfl, ?_⟩)
    rw [e]
    have kk : ∀ c, (List.zipWith (fun g w => g.testBit w) gs wh).any id = c → P.rt (fmD (if c = true then none else some gs)) := fun c hc => by
      rw [← hc, hgs]; exact k
    refine ifB (fun z => ?_) (fun z => ?_)
    · exact wps_ret (wpe_non (kk _ z))
    · exact wps_next (wps_ret (wpe_var (by rfl) (kk _ z)))
end
end DL

namespace DL
open PySem PySem.Spec PyProof.Rows L2
/-! the table of heavy sets -/
def subA (ss : List Sd2) (i m : Nat) (p : Cq) : List Int := subL ((allows p.1 p.2 ss).take i) m
def TabOk (ab : List Cq) (ss : List Sd2) (i m : Nat) : Option (List Nat) → Prop
  | none => ∃ p ∈ ab, hpk p.1 (subA ss i m p) = true
  | some fs => fs.length = ab.length ∧ ∀ (j : Nat) p f, ab[j]? = some p → fs[j]? = some f → FamOk p.1 (subA ss i m p) p.1.length (subA ss i m p).length f ∧ hpk p.1 (subA ss i m p) = false
theorem allows_len (p : Cq) (ss : List Sd2) : (allows p.1 p.2 ss).length = ss.length := by unfold allows; rw [List.length_map]
theorem subA_low {ss : List Sd2} {i m : Nat} {p : Cq} (hi : i < ss.length) (hm : m < 2 ^ i) : subA ss (i + 1) m p = subA ss i m p := by
  unfold subA
  have hl : i < (allows p.1 p.2 ss).length := by rw [allows_len]; exact hi
  rw [take_succ' (List.getElem?_eq_getElem hl), subL_snoc, List.length_take, Nat.min_eq_left (by omega), Nat.testBit_lt_two_pow hm, if_neg Bool.false_ne_true, List.append_nil]
theorem subA_high {ss : List Sd2} {i m : Nat} {p : Cq} (hi : i < ss.length) (hm : m < 2 ^ i) : subA ss (i + 1) (2 ^ i + m) p = subA ss i m p ++ [rget (allows p.1 p.2 ss) (i : Nat)] := by
  unfold subA
  have hl : i < (allows p.1 p.2 ss).length := by rw [allows_len]; exact hi
  rw [take_succ' (rget_some hl), subL_snoc, List.length_take, Nat.min_eq_left (by omega), Nat.testBit_two_pow_add_eq, Nat.testBit_lt_two_pow hm, if_pos (show (!false) = true from rfl)]
  congr 1
  exact subL_congr fun j hj => Nat.testBit_two_pow_add_gt (by rw [List.length_take] at hj; omega) _
theorem tab_low {ab : List Cq} {ss : List Sd2} {i m : Nat} (hi : i < ss.length) (hm : m < 2 ^ i) : ∀ {o : Option (List Nat)}, TabOk ab ss i m o → TabOk ab ss (i + 1) m o
  | none, ⟨p, h1, h2⟩ => ⟨p, h1, by rw [subA_low hi hm]; exact h2⟩
  | some fs, ⟨h1, h2⟩ => ⟨h1, fun j p f e1 e2 => by rw [subA_low hi hm]; exact h2 j p f e1 e2⟩
theorem subA_nn {ss : List Sd2} {p : Cq} (h : ∀ r ∈ allows p.1 p.2 ss, 0 ≤ r) (i m : Nat) : ∀ r ∈ subA ss i m p, 0 ≤ r := fun r hr => h r (List.mem_of_mem_take ((subL_sub _ _).subset hr))
theorem tab_high {ab : List Cq} {ss : List Sd2} {i m : Nat} {pas : List (Cq × List Nat)} (hi : i < ss.length) (hm : m < 2 ^ i) (h0 : ∀ p ∈ ab, ∀ r ∈ allows p.1 p.2 ss, 0 ≤ r)
    (hpl : pas.length = ab.length) (hpa : ∀ (j : Nat) pa, pas[j]? = some pa → ab[j]? = some pa.1 ∧ ApOk pa.1.1.length pa.2) :
    ∀ {o : Option (List Nat)}, TabOk ab ss i m o → TabOk ab ss (i + 1) (2 ^ i + m) (grF o (pas.map fun pa => (pa.2, fitG pa.1.1 pa.1.1.length (rget (allows pa.1.1 pa.1.2 ss) (i : Nat)))) (ab.map fun p => 2 ^ p.1.length - 1))
  | none, ⟨p, h1, h2⟩ => by
    refine ⟨p, h1, ?_⟩
    rw [subA_high hi hm]
    have hl : i < (allows p.1 p.2 ss).length := by rw [allows_len]; exact hi
    exact hpk_more (h0 p h1 _ (by rw [rget_in hl]; exact List.getElem_mem hl)) h2
  | some fs, ⟨h1, h2⟩ => by
    show TabOk ab ss (i + 1) (2 ^ i + m) (if _ then _ else _)
    obtain ⟨gs, hgs⟩ : ∃ gs, gs = List.zipWith (fun f (p : List Nat × List Nat) => grownN f p.1 p.2) fs (pas.map fun pa => (pa.2, fitG pa.1.1 pa.1.1.length (rget (allows pa.1.1 pa.1.2 ss) (i : Nat)))) := ⟨_, rfl⟩
    rw [← hgs]
    have gl : gs.length = ab.length := by rw [hgs, List.length_zipWith, List.length_map]; omega
    have key : ∀ (j : Nat) p g, ab[j]? = some p → gs[j]? = some g → FamOk p.1 (subA ss (i + 1) (2 ^ i + m) p) p.1.length (subA ss (i + 1) (2 ^ i + m) p).length g := fun j p g e1 e2 => by
      have hj := (List.getElem?_eq_some_iff.mp e1).1
      have hjf : j < fs.length := by omega
      have hjp : j < pas.length := by omega
      have ef := List.getElem?_eq_getElem hjf
      have ep := List.getElem?_eq_getElem hjp
      generalize fs[j] = f at ef
      generalize pas[j] = pa at ep
      obtain ⟨q1, q2⟩ := hpa j pa ep
      rw [e1] at q1
      obtain ⟨pp, A⟩ := pa
      have q1' : p = pp := Option.some.inj q1
      subst q1'
      rw [hgs, zipW_get ef (by rw [List.getElem?_map, ep]; rfl)] at e2
      cases e2
      rw [subA_high hi hm, List.length_append]
      have hf := (h2 j p f e1 ef).1
      have hf' : FamOk p.1 (subA ss i m p ++ [rget (allows p.1 p.2 ss) (i : Nat)]) p.1.length (subA ss i m p).length f := famOk_congr (fun k hk => (rget_app hk).symm) hf
      have := fam_succ q2 hf'
      rw [rget_end] at this
      exact this
    by_cases hz : (List.zipWith (fun g w => g.testBit w) gs (ab.map fun p => 2 ^ p.1.length - 1)).any id = true
    · rw [if_pos hz]
      obtain ⟨c, hc, hct⟩ := List.any_eq_true.mp hz
      obtain ⟨j, hj⟩ := List.mem_iff_getElem?.mp hc
      have hjl := (List.getElem?_eq_some_iff.mp hj).1
      rw [List.length_zipWith, List.length_map] at hjl
      have hja : j < ab.length := by omega
      have hjg : j < gs.length := by omega
      have ea := List.getElem?_eq_getElem hja
      have eg := List.getElem?_eq_getElem hjg
      rw [zipW_get eg (by rw [List.getElem?_map, ea]; rfl)] at hj
      cases hj
      refine ⟨ab[j], List.getElem_mem hja, ?_⟩
      rw [← fam_full (key j _ _ ea eg)]
      exact hct
    · rw [if_neg hz]
      refine ⟨gl, fun j p g e1 e2 => ⟨key j p g e1 e2, ?_⟩⟩
      rw [← fam_full (key j p g e1 e2)]
      have hz' : (List.zipWith (fun g w => g.testBit w) gs (ab.map fun p => 2 ^ p.1.length - 1)).any id = false := by simpa using hz
      rw [List.any_eq_false] at hz'
      have := hz' _ (List.mem_of_getElem? (zipW_get (f := fun g w => g.testBit w) e2 (y := 2 ^ p.1.length - 1) (by rw [List.getElem?_map, e1]; rfl)))
      simpa using this
theorem subA_all (ss : List Sd2) (m : Nat) (p : Cq) : subA ss ss.length m p = allows p.1 p.2 (subL ss m) := by
  unfold subA
  rw [List.take_of_length_le (by rw [allows_len]; exact Nat.le_refl _)]
  unfold allows
  exact subL_map _ _ _
theorem tab_end {ab : List Cq} {ss : List Sd2} {m : Nat} : ∀ {o : Option (List Nat)}, TabOk ab ss ss.length m o → isNo (fmD o) = hvM ab ss m
  | none, ⟨p, h1, h2⟩ => by
    rw [subA_all] at h2
    exact (List.any_eq_true.mpr ⟨p, h1, h2⟩).symm
  | some fs, ⟨h1, h2⟩ => by
    refine (Bool.eq_false_iff.mpr fun z => ?_).symm
    obtain ⟨p, hp, hz⟩ := List.any_eq_true.mp z
    obtain ⟨j, hj⟩ := List.mem_iff_getElem?.mp hp
    have hjl := (List.getElem?_eq_some_iff.mp hj).1
    have hjf : j < fs.length := by omega
    have := (h2 j p _ hj (List.getElem?_eq_getElem hjf)).2
    rw [subA_all, hz] at this
    cases this
theorem hvM_able {ab cs : List Cq} {ss : List Sd2} {m : Nat} (h1 : ∀ p ∈ ab, p ∈ cs) (h2 : ∀ p ∈ cs, p ∈ ab ∨ noRoom p.1 (allows p.1 p.2 ss)) (hw : ∀ p ∈ cs, ∀ x ∈ p.1, 0 ≤ x) : hvM ab ss m = hvM cs ss m := by
  unfold hvM
  rw [Bool.eq_iff_iff, List.any_eq_true, List.any_eq_true]
  constructor
  · rintro ⟨p, hp, h⟩; exact ⟨p, h1 p hp, h⟩
  · rintro ⟨p, hp, h⟩
    rcases h2 p hp with z | ⟨w, w1, w2, w3⟩
    · exact ⟨p, z, h⟩
    · have := hpk_none (as := allows p.1 p.2 (subL ss m)) (hw p hp) w1 w2 fun a ha => w3 a (by
        unfold allows at ha ⊢
        obtain ⟨s, hs, rfl⟩ := List.mem_map.mp ha
        exact List.mem_map.mpr ⟨s, (subL_sub _ _).subset hs, rfl⟩)
      rw [h] at this; cases this
theorem allow_nnD {ws qs : List Int} (h : okQ ws qs) {c : Int} {w : Bool} (h0 : 0 ≤ c) (h1 : c < qs.length) : 0 ≤ allow ws qs c w := by
  have hq := h.2.2.2 (rget qs c) (by
    unfold rget
    have hl : c.toNat < qs.length := by omega
    rw [List.getD, List.getElem?_eq_getElem hl]
    exact List.getElem_mem hl)
  unfold allow
  cases w
  · show 0 ≤ rget qs c - 1
    omega
  · show 0 ≤ ws.sum - rget qs c
    omega
theorem allows_nnD {p : Cq} {ss : List Sd2} (h : okQ p.1 p.2) (hs : ∀ s ∈ ss, 0 ≤ s.1 ∧ s.1 < p.2.length) : ∀ r ∈ allows p.1 p.2 ss, 0 ≤ r := fun r hr => by
  unfold allows at hr
  obtain ⟨s, hs', rfl⟩ := List.mem_map.mp hr
  exact allow_nnD h (hs s hs').1 (hs s hs').2
section
variable {K : PySem.W.Frag} {C : Addr} {b : Bg} {P : Po}
theorem fit_bounds {n : Nat} (hn : n ≤ 7) (ws : List Int) (a : Int) : (fitG ws n a).length ≤ 128 ∧ ∀ g ∈ fitG ws n a, g ≤ 128 := by
  have hp := pow7 hn
  refine ⟨?_, fun g hg => by have := (fitG_mem.mp hg).1; omega⟩
  have := List.length_filter_le (fun g => decide (wsumN ws n g ≤ a)) (List.range (2 ^ n))
  rw [List.length_range] at this
  unfold fitG; omega
theorem w_heavy_table {cs : List Cq} {ss : List Sd2} (h : okLs cs ss) (k : P.rt (.lst ((List.range (2 ^ ss.length)).map fun m => D.bl (hvM cs ss m)))) :
    wps K b (t_heavy_table K C) [.d (dCs C cs), .d (dS ss), .u, .u, .u, .u, .u, .u, .u, .u, .u] P := by
  unfold t_heavy_table
  obtain ⟨hc5, hs12, hok⟩ := h
  have hokq : ∀ p ∈ cs, okQ p.1 p.2 := fun p hp => (hok p hp).1
  have hoks : ∀ p ∈ cs, okSd p.2 ss := fun p hp => ⟨by omega, (hok p hp).2⟩
  have h12 : 2 ^ ss.length ≤ 4096 := Nat.le_trans (Nat.pow_le_pow_right (by decide) hs12) (by decide)
  refine wps_seq (wps_asg (wpe_l (wpl_lc (wpi_list (wpe_var (x := dCs C cs) (by rfl) ⟨_, rfl, by rw [List.length_map]; omega, fun n acc => ∃ ab : List Cq, acc = ab.map (fun p => dC C p.1 p.2) ∧ ab.length ≤ n ∧ (∀ p ∈ ab, p ∈ cs) ∧ ∀ (j : Nat) p, j < n → cs[j]? = some p → p ∈ ab ∨ noRoom p.1 (allows p.1 p.2 ss),
    ⟨[], rfl, Nat.le_refl _, fun p hp => (List.not_mem_nil hp).elim, fun j p hj => absurd hj (Nat.not_lt_zero j)⟩, fun n d acc hd hl hI => ?_, fun acc hI => ?_⟩)))))
  · obtain ⟨p, hp, rfl, hm⟩ := map_mem hd
    obtain ⟨ab, rfl, hab, h1, h2⟩ := hI
    refine wpg_name (by simp) (wpt_B (wpe_callx (wpa_cons (wpe_var (x := dC C p.1 p.2) (by rfl) (wpa_cons (wpe_var (x := dS ss) (by rfl) (wpa_nil ⟨(p, ss), rfl, ⟨hokq p hm, hoks p hm⟩, fun x hx => ?_⟩)))))))
    obtain ⟨c, rfl, hc⟩ := hx
    refine ⟨c, rfl, ifB (fun _ => wpe_var (x := dC C p.1 p.2) (by rfl) ⟨ab ++ [p], by rw [List.map_append]; rfl, by rw [List.length_append]; exact Nat.succ_le_succ hab, fun q hq => ?_, fun j q hj e => ?_⟩) (fun z => ⟨ab, rfl, by omega, h1, fun j q hj e => ?_⟩)⟩
    · rcases List.mem_append.mp hq with hq | hq
      · exact h1 q hq
      · rw [List.mem_singleton.mp hq]; exact hm
    · by_cases hjn : j = n
      · subst hjn
        rw [hp] at e; cases e
        exact .inl (List.mem_append_right _ (List.mem_singleton.mpr rfl))
      · exact (h2 j q (by omega) e).imp (fun z => List.mem_append_left _ z) id
    · by_cases hjn : j = n
      · subst hjn
        rw [hp] at e; cases e
        exact .inr (hc z)
      · exact h2 j q (by omega) e
  obtain ⟨ab, rfl, hal, h1, h2'⟩ := hI
  rw [List.length_map] at hal h2'
  have h2 : ∀ p ∈ cs, p ∈ ab ∨ noRoom p.1 (allows p.1 p.2 ss) := fun p hp => by
    obtain ⟨j, hj⟩ := List.mem_iff_getElem?.mp hp
    exact h2' j p (List.getElem?_eq_some_iff.mp hj).1 hj
  clear h2'
  have hab7 : ∀ p ∈ ab, p.1.length ≤ 7 := fun p hp => (hokq p (h1 p hp)).1.2
  -- wholes
  refine wps_seq (wps_asg (wpe_l (wpl_gen1 (R := fun j y => ∃ p, ab[j]? = some p ∧ y = natD (2 ^ p.1.length - 1)) (wpi_list (wpe_var (x := dCs C ab) (by rfl) ⟨_, rfl, by rw [List.length_map]; omega, fun j d hd => ?_, fun acc hl hR => ?_⟩)))))
  · obtain ⟨p, hp, rfl, hm⟩ := map_mem hd
    have h7 := hab7 p hm
    refine wpe_callx (wpa_cons (wpe_cb (wpa_cons (wpe_var (x := dC C p.1 p.2) (by rfl) (wpa_nil (rc_lenI ⟨p, rfl, trivial, fun z hz => ⟨(p.1.length : Nat), hz, ⟨by omega, by omega⟩, wpa_nil ⟨p.1.length, rfl, h7, fun x hx => ⟨p, hp, hx⟩⟩⟩⟩))))))
  have e : acc = (ab.map fun p => 2 ^ p.1.length - 1).map natD := by
    rw [List.length_map] at hl
    refine list_of_get (by rw [hl]; simp) fun i y z => ?_
    obtain ⟨p, hp, rfl⟩ := hR i y z
    rw [List.getElem?_map, List.getElem?_map, hp]; rfl
  subst e
  clear hR hl
  -- fitting
  refine wps_seq (wps_asg (wpe_l (wpl_gen1 (R := fun j y => ∃ pa : Cq × List Nat, y = .lst ((allows pa.1.1 pa.1.2 ss).map fun m => dF pa.2 (fitG pa.1.1 pa.1.1.length m)) ∧ ab[j]? = some pa.1 ∧ ApOk pa.1.1.length pa.2) (wpi_list (wpe_var (x := dCs C ab) (by rfl) ⟨_, rfl, by rw [List.length_map]; omega, fun j d hd => ?_, fun acc hl hR => ?_⟩)))))
  · obtain ⟨p, hp, rfl, hm⟩ := map_mem hd
    have h7 := hab7 p hm
    refine wpe_callx (wpa_cons (wpe_l (wpl_methy (wpe_var (x := dC C p.1 p.2) (by rfl) ⟨_, _, rfl, no_weights, wpa_nil ⟨p, rfl, trivial, fun es he => ?_⟩⟩))))
    subst he
    refine wpa_cons (wpe_callx (wpa_cons (wpe_var (x := dC C p.1 p.2) (by rfl) (wpa_cons (wpe_var (x := dS ss) (by rfl) (wpa_nil ⟨(p, ss), rfl, hoks p (h1 p hm), fun x hx => ?_⟩))))))
    subst hx
    refine wpa_nil ⟨(p.1, allows p.1 p.2 ss), rfl, ⟨h7, by show (allows p.1 p.2 ss).length ≤ 100; rw [allows_len]; omega⟩, fun x hx => ?_⟩
    obtain ⟨A, hA, rfl⟩ := hx
    exact ⟨(p, A), rfl, hp, hA⟩
  obtain ⟨pas, rfl, hpas⟩ := maps_of (f := fun pa : Cq × List Nat => D.lst ((allows pa.1.1 pa.1.2 ss).map fun m => dF pa.2 (fitG pa.1.1 pa.1.1.length m))) hR
  rw [List.length_map, List.length_map] at hl
  clear hR
  have hpl : pas.length = ab.length := hl
  -- the first table
  refine wps_seq (wps_asg (wpe_l (wpl_lst (wpa_cons (wpe_l (wpl_op (wpe_l (wpl_lst (wpa_cons (wpe_int (wpa_nil ⟨len_le rfl, wpe_cb (wpa_cons (wpe_var (x := dCs C ab) (by rfl) (wpa_nil (rc_lenL ?_))))⟩)))))))))))
  rw [List.length_map]
  refine rd_rep1 (by omega) (wpa_nil ⟨len_le rfl, ?_⟩)
  refine wps_seq (wps_for [6] (wpi_rng1 (wpa_cons (wpe_cb (wpa_cons (wpe_var (x := dS ss) (by rfl) (wpa_nil (rc_lenL ?_))))))))
  rw [List.length_map]
  refine wpa_nil ⟨_, rfl, by omega, by omega, fun i E => ∃ (T : List D) (a6 a7 : En), (T.length = 2 ^ i ∧ ∀ m d, T[m]? = some d → ∃ o, d = fmD o ∧ TabOk ab ss i m o) ∧ 
    E = [.d (dCs C cs), .d (dS ss), .d (dCs C ab), .d (.lst ((ab.map fun p => 2 ^ p.1.length - 1).map natD)), .d (.lst (pas.map fun pa => D.lst ((allows pa.1.1 pa.1.2 ss).map fun m => dF pa.2 (fitG pa.1.1 pa.1.1.length m)))), .d (.lst T), a6, a7, .u, .u, .u],
    ⟨[.lst (List.replicate ab.length (.int 1))], _, _, ⟨rfl, fun m d z => ?_⟩, rfl⟩, fun i d E hd hI => ?_, fun E hI => ?_⟩
  · have hm0 : m = 0 := by have := (List.getElem?_eq_some_iff.mp z).1; simp at this; exact this
    subst hm0
    cases z
    refine ⟨some (List.replicate ab.length 1), by show D.lst _ = D.lst ((List.replicate ab.length 1).map natD); rw [List.map_replicate]; rfl, by rw [List.length_replicate], fun j p f e1 e2 => ?_⟩
    have hf : f = 1 := by
      have := List.mem_of_getElem? e2
      exact (List.mem_replicate.mp this).2
    subst hf
    have hpm := List.mem_of_getElem? e1
    have hq := hokq p (h1 p hpm)
    have e0 : subA ss 0 0 p = [] := by unfold subA; rw [List.take_zero]; rfl
    rw [e0]
    refine ⟨fam_zero _ _ _, ?_⟩
    have hp0 : 0 < p.1.length := by have := hq.1.1; omega
    have hw0 := (hq.2.2.1 p.1[0] (List.getElem_mem hp0)).1
    exact hpk_none (fun x hx => by have := (hq.2.2.1 x hx).1; omega) (List.getElem_mem hp0) (by omega) fun a ha => nomatch ha
  · obtain ⟨T, a6, a7, ⟨hT1, hT2⟩, rfl⟩ := hI
    obtain ⟨hi, rfl⟩ := rangeD_at hd
    rw [Int.toNat_natCast] at hi
    rw [Int.zero_add]
    have hTi : 2 ^ i ≤ 4096 := Nat.le_trans (Nat.pow_le_pow_right (by decide) (show i ≤ 12 by omega)) (by decide)
    refine wpg_name (by simp) ?_
    refine wps_seq (wps_asg (wpe_l (wpl_gen1 (R := fun j y => ∃ pa, pas[j]? = some pa ∧ y = dF pa.2 (fitG pa.1.1 pa.1.1.length (rget (allows pa.1.1 pa.1.2 ss) (i : Nat)))) (wpi_list (wpe_var (x := .lst (pas.map fun pa => D.lst ((allows pa.1.1 pa.1.2 ss).map fun m => dF pa.2 (fitG pa.1.1 pa.1.1.length m)))) (by rfl) ⟨_, rfl, by rw [List.length_map]; omega, fun j d hd => ?_, fun acc hl hR => ?_⟩)))))
    · obtain ⟨pa, hpa, rfl, hm⟩ := map_mem hd
      have hl : i < (allows pa.1.1 pa.1.2 ss).length := by rw [allows_len pa.1]; exact hi
      refine wpe_op (wpe_var (by rfl) (wpe_var (x := .int (i : Nat)) (by rfl) (rd_ixl (d := dF pa.2 (fitG pa.1.1 pa.1.1.length (rget (allows pa.1.1 pa.1.2 ss) (i : Nat)))) (atI_get (by rw [List.getElem?_map, rget_some hl]; rfl)) ⟨pa, hpa, rfl⟩)))
    have e : acc = (pas.map fun pa => (pa.2, fitG pa.1.1 pa.1.1.length (rget (allows pa.1.1 pa.1.2 ss) (i : Nat)))).map fun p => dF p.1 p.2 := by
      rw [List.length_map] at hl
      refine list_of_get (by rw [hl]; simp) fun i y z => ?_
      obtain ⟨pa, hpa, rfl⟩ := hR i y z
      rw [List.getElem?_map, List.getElem?_map, hpa]; rfl
    subst e
    clear hR hl
    obtain ⟨ps, hps⟩ : ∃ ps, ps = pas.map fun pa : Cq × List Nat => (pa.2, fitG pa.1.1 pa.1.1.length (rget (allows pa.1.1 pa.1.2 ss) (i : Nat))) := ⟨_, rfl⟩
    rw [← hps]
    refine wps_asg (wpe_l (wpl_op (wpe_var (x := .lst T) (by rfl) (wpe_l (wpl_gen1 (R := fun m y => ∃ o, y = fmD o ∧ TabOk ab ss (i + 1) (2 ^ i + m) o) (wpi_list (wpe_var (x := .lst T) (by rfl) ⟨_, rfl, by omega, fun m d hd => ?_, fun acc hl hR => ?_⟩)))))))
    · have hm : m < 2 ^ i := by rw [← hT1]; exact (List.getElem?_eq_some_iff.mp hd).1
      obtain ⟨o, rfl, ho⟩ := hT2 m d hd
      refine wpe_callx (wpa_cons (wpe_var (x := fmD o) (by rfl) (wpa_cons (wpe_var (x := .lst (ps.map fun p => dF p.1 p.2)) (by rfl) (wpa_cons (wpe_var (x := .lst ((ab.map fun p => 2 ^ p.1.length - 1).map natD)) (by rfl) (wpa_nil ⟨(o, ps, ab.map fun p => 2 ^ p.1.length - 1), rfl, ?_, fun x hx => ⟨_, hx, ?_⟩⟩)))))))
      · match o, ho with
        | none, _ => trivial
        | some fs, ho =>
          refine ⟨by have := ho.1; omega, by rw [hps, List.length_map, ho.1]; exact hpl.symm, by rw [List.length_map]; exact ho.1, fun f hf => ?_, fun p hp => ?_, fun w hw => ?_⟩
          · obtain ⟨j, hj⟩ := List.mem_iff_getElem?.mp hf
            have hjl := (List.getElem?_eq_some_iff.mp hj).1
            have hja : j < ab.length := by rw [← ho.1]; exact hjl
            have ea := List.getElem?_eq_getElem hja
            have := (ho.2 j _ f ea hj).1.1
            have h7 := hab7 _ (List.getElem_mem hja)
            exact Nat.lt_of_lt_of_le this (Nat.pow_le_pow_right (by decide) (pow7 h7))
          · rw [hps] at hp
            obtain ⟨pa, hpm, rfl⟩ := List.mem_map.mp hp
            obtain ⟨j, hj⟩ := List.mem_iff_getElem?.mp hpm
            exact fit_bounds (hab7 _ (List.mem_of_getElem? (hpas j pa hj).1)) _ _
          · obtain ⟨p, hp, rfl⟩ := List.mem_map.mp hw
            have := pow7 (hab7 p hp)
            omega
      · rw [hps]
        exact tab_high hi hm (fun p hp => allows_nnD (hokq p (h1 p hp)) (hoks p (h1 p hp)).2) hpl hpas ho
    · refine rd_cat (by omega) ⟨T ++ acc, .d (.int (i : Nat)), .d (.lst (ps.map fun p => dF p.1 p.2)), ⟨by rw [List.length_append, hl, hT1, Nat.pow_succ]; omega, fun m d z => ?_⟩, rfl⟩
      by_cases hm : m < T.length
      · rw [List.getElem?_append_left hm] at z
        obtain ⟨o, rfl, ho⟩ := hT2 m d z
        exact ⟨o, rfl, tab_low hi (by omega) ho⟩
      · rw [List.getElem?_append_right (by omega)] at z
        obtain ⟨o, rfl, ho⟩ := hR _ d z
        refine ⟨o, rfl, ?_⟩
        rw [show 2 ^ i + (m - T.length) = m by omega] at ho
        exact ho
  · obtain ⟨T, a6, a7, ⟨hT1, hT2⟩, rfl⟩ := hI
    rw [rangeD_len, Int.toNat_natCast] at hT1 hT2
    refine wps_ret (wpe_l (wpl_gen1 (R := fun m y => m < 2 ^ ss.length ∧ y = .bl (hvM cs ss m)) (wpi_list (wpe_var (x := .lst T) (by rfl) ⟨_, rfl, by omega, fun m d hd => ?_, fun acc hl hR => ?_⟩))))
    · have hm : m < 2 ^ ss.length := by rw [← hT1]; exact (List.getElem?_eq_some_iff.mp hd).1
      obtain ⟨o, rfl, ho⟩ := hT2 m d hd
      refine wpe_op (wpe_var (x := fmD o) (by rfl) (wpe_non (rd_isN ⟨hm, ?_⟩)))
      rw [tab_end ho, hvM_able h1 h2 fun p hp x hx => by have := ((hokq p hp).2.2.1 x hx).1; omega]
    · have e : acc = (List.range (2 ^ ss.length)).map fun m => D.bl (hvM cs ss m) := by
        refine list_of_get (by rw [hl, hT1]; simp) fun m y z => ?_
        obtain ⟨hm, rfl⟩ := hR m y z
        rw [List.getElem?_map, List.getElem?_range hm]; rfl
      subst e
      exact k
end
end DL

namespace DL
open PySem PySem.Spec PyProof.Rows L2
/-! sorted sides, sorted lists of sides -/
theorem encS_py (s : Sd2) : (encS s).py = .tuple [.int s.1, .str (wayS s.2)] := by unfold encS; simp only [D.py, D.pyA]
theorem alikeS (p q : Sd2) : PySem.W.alike (encS p).py (encS q).py = true := by
  rw [encS_py, encS_py]
  simp [PySem.W.alike, PySem.W.alikeAll]
theorem allAlikeS (ss : List Sd2) : PySem.W.AllAlike ((ss.map encS).map D.py) := by
  rw [List.map_map]
  exact PySem.W.AllAlike.of (enc := D.py ∘ encS) fun p q => alikeS p q
theorem sortableS (ss : List Sd2) : PySem.W.Sortable ((ss.map encS).map D.py) := by
  rw [List.map_map]
  refine PySem.W.Sortable.tuples (enc := D.py ∘ encS) fun q => ⟨.int q.1, [.str (wayS q.2)], ?_⟩
  exact encS_py q
theorem dS_py (ss : List Sd2) : (dS ss).py = .list (ss.map fun s => (encS s).py) := by
  unfold dS
  simp only [D.py]
  rw [pyA_map, List.map_map]; rfl
theorem alikeAllS : ∀ as bs : List Sd2, PySem.W.alikeAll (as.map fun s => (encS s).py) (bs.map fun s => (encS s).py) = true
  | [], _ => by simp [PySem.W.alikeAll]
  | _ :: _, [] => by simp [PySem.W.alikeAll]
  | a :: as, c :: bs => by
    simp only [List.map_cons, PySem.W.alikeAll, alikeS, alikeAllS as bs, Bool.and_self]
theorem allAlikeLS (L : List (List Sd2)) : PySem.W.AllAlike ((L.map dS).map D.py) := by
  rw [List.map_map]
  refine PySem.W.AllAlike.of (enc := D.py ∘ dS) fun p q => ?_
  show PySem.W.alike (dS p).py (dS q).py = true
  rw [dS_py, dS_py]
  simp only [PySem.W.alike]
  exact alikeAllS p q
theorem sortableLS (L : List (List Sd2)) : PySem.W.Sortable ((L.map dS).map D.py) := by
  rw [List.map_map]
  refine PySem.W.Sortable.others (enc := D.py ∘ dS) fun q => ?_
  show (dS q).py ≠ .none ∧ ∀ xs, (dS q).py ≠ .tuple xs
  rw [dS_py]
  exact ⟨(fun z => nomatch z), fun _ z => nomatch z⟩
theorem sortSd_map (ss : List Sd2) : (ss.map encS).mergeSort leD = (sortSd ss).map encS :=
  (PySem.W.sort_maps (r := fun p q => leD (encS p) (encS q)) (s := leD) encS (fun _ _ _ _ => rfl)).symm
theorem sortLS_map (L : List (List Sd2)) : (L.map dS).mergeSort leD = (sortLS L).map dS :=
  (PySem.W.sort_maps (r := fun p q => leD (dS p) (dS q)) (s := leD) dS (fun _ _ _ _ => rfl)).symm
theorem sortSd_perm (ss : List Sd2) : (sortSd ss).Perm ss := List.mergeSort_perm _ _
theorem sortLS_perm (L : List (List Sd2)) : (sortLS L).Perm L := List.mergeSort_perm _ _
theorem sortSd_pw (ss : List Sd2) : (sortSd ss).Pairwise fun p q => leD (encS p) (encS q) = true :=
  List.pairwise_mergeSort (le := fun p q => leD (encS p) (encS q)) (fun a b c h1 h2 => leD_total.trans _ _ _ h1 h2) (fun a b => by
    show (leD (encS a) (encS b) || leD (encS b) (encS a)) = true
    rcases leD_total.total (encS a) (encS b) with h | h
    · rw [h]; rfl
    · rw [h, Bool.or_true]) ss
theorem sortLS_pw (L : List (List Sd2)) : (sortLS L).Pairwise fun p q => leD (dS p) (dS q) = true :=
  List.pairwise_mergeSort (le := fun p q => leD (dS p) (dS q)) (fun a b c h1 h2 => leD_total.trans _ _ _ h1 h2) (fun a b => by
    show (leD (dS a) (dS b) || leD (dS b) (dS a)) = true
    rcases leD_total.total (dS a) (dS b) with h | h
    · rw [h]; rfl
    · rw [h, Bool.or_true]) L
/-- sorted already -/
theorem sortSd_of {ss : List Sd2} (h : ss.Pairwise fun p q => leD (encS p) (encS q) = true) : sortSd ss = ss := List.mergeSort_of_pairwise h
theorem sortLS_of {L : List (List Sd2)} (h : L.Pairwise fun p q => leD (dS p) (dS q) = true) : sortLS L = L := List.mergeSort_of_pairwise h
theorem dLS_ok (n : Nat) (L : List (List Sd2)) : D.okA (n + 2) (L.map dS) = true := okA_of fun d hd => by
  obtain ⟨q, _, rfl⟩ := List.mem_map.mp hd
  exact dS_ok n q
theorem encSs_ok (n : Nat) (ss : List Sd2) : D.okA (n + 1) (ss.map encS) = true := okA_of fun d hd => by
  obtain ⟨q, _, rfl⟩ := List.mem_map.mp hd
  exact encS_ok n q
theorem range_filter {α : Type} (xs : List α) (P : α → Bool) (d : α) : ((List.range xs.length).filter fun j => P (xs.getD j d)).map (fun j => xs.getD j d) = xs.filter P := by
  have g : ∀ n, n ≤ xs.length → ((List.range n).filter fun j => P (xs.getD j d)).map (fun j => xs.getD j d) = (xs.take n).filter P := fun n => by
    induction n with
    | zero => intro _; rfl
    | succ n ih =>
      intro h
      have hn : n < xs.length := by omega
      have en : xs[n]? = some xs[n] := List.getElem?_eq_getElem hn
      have eg : xs.getD n d = xs[n] := by rw [List.getD, en]; rfl
      rw [filt_snoc, ih (by omega), take_succ' en, List.filter_append, eg]
      congr 1
      cases h : P xs[n] <;> simp [h]
  have := g xs.length (Nat.le_refl _)
  rw [List.take_length] at this
  exact this
section
variable {K : PySem.W.Frag} {C : Addr} {b : Bg} {P : Po} {E : Env'} {te : TE} {tt : TT}
/-- a filtered walk over a list, its items kept -/
theorem wpl_fltL {α : Type} {wi : TI} {i : Nat} (xs : List α) (f : α → D) (dflt : α) (p : α → Bool) {Φ : List D → Prop} (hi : i < E.length) (h : wpi K b wi E fun ds => ds = xs.map f ∧ xs.length ≤ 100000 ∧
    (∀ (j : Nat) x, xs[j]? = some x → x ∈ xs → wpt K b tt ((wipeE E [i]).set i (.d (f x))) fun r => r = p x) ∧ Φ ((xs.filter p).map f)) :
    wpl K b (tLc wi (gName i) tt (tVar i) [i]) E Φ := by
  refine wpl_flt (fun j => p (xs.getD j dflt)) (fun j => f (xs.getD j dflt)) fun H0 F H σ w e Q k => h H0 F H σ w e Q fun J F' H' ds s w' it q => k J F' H' ds s w' it ?_
  obtain ⟨rfl, h1, h2, h3⟩ := q
  refine ⟨by rw [List.length_map]; exact h1, fun j d hd => ?_, ?_⟩
  · obtain ⟨x, hx, rfl, hm⟩ := map_mem hd
    have eg : xs.getD j dflt = x := by rw [List.getD, hx]; rfl
    refine (h2 j x hx hm).mono fun r hr => ⟨by rw [hr, eg], fun _ => ?_⟩
    rw [eg]
    exact wpe_var (List.getElem?_set_self (by rw [wipeE_len]; exact hi)) rfl
  · rw [List.length_map]
    have := range_filter xs p dflt
    rw [← this, List.map_map] at h3
    exact h3
theorem w_listed {ss : List Sd2} {ms : List Nat} (h : ss.length ≤ 100) (hm : ms.length ≤ 10000) (k : P.rt (.lst ((sortLS (ms.map (subL ss))).map dS))) : wps K b (t_listed K C) [.d (dS ss), .d (.lst (ms.map natD)), .u] P := by
  unfold t_listed
  refine wps_ret (wpe_l (wpl_cb (wpa_cons (wpe_l (wpl_gen1 (R := fun j y => ∃ m, ms[j]? = some m ∧ y = dS (subL ss m)) (wpi_list (wpe_var (x := .lst (ms.map natD)) (by rfl) ⟨_, rfl, by rw [List.length_map]; omega, fun j d hd => ?_, fun acc hl hR => ?_⟩)))))))
  · obtain ⟨m, hm', rfl, _⟩ := map_mem hd
    refine wpe_callx (wpa_cons (wpe_var (x := dS ss) (by rfl) (wpa_cons (wpe_var (x := natD m) (by rfl) (wpa_nil ⟨(ss.map encS, m), rfl, by show (ss.map encS).length ≤ 100; rw [List.length_map]; exact h, fun x hx => ⟨m, hm', ?_⟩⟩)))))
    rw [hx]
    show D.lst (subL (ss.map encS) m) = dS (subL ss m)
    rw [subL_map]; rfl
  · have e : acc = (ms.map (subL ss)).map dS := by
      rw [List.length_map] at hl
      refine list_of_get (by rw [hl]; simp) fun i y z => ?_
      obtain ⟨m, hm', rfl⟩ := hR i y z
      rw [List.getElem?_map, List.getElem?_map, hm']; rfl
    subst e
    refine wpa_nil (rcl_sorted 9 (by decide) (dLS_ok 7 _) (allAlikeLS _) (sortableLS _) ?_)
    rw [sortLS_map]; exact k
theorem moreM_lt {m n : Nat} (h : m < 2 ^ n) : ∀ k ∈ moreM m n, k < 2 ^ n := fun k hk => by
  unfold moreM at hk
  obtain ⟨j, hj, rfl⟩ := List.mem_map.mp hk
  have := List.mem_range.mp (List.mem_filter.mp hj).1
  exact Nat.or_lt_two_pow h (Nat.pow_lt_pow_right (by decide) this)
theorem lessM_lt {m n : Nat} (h : m < 2 ^ n) : ∀ k ∈ lessM m n, k < 2 ^ n := fun k hk => by
  unfold lessM at hk
  obtain ⟨j, hj, rfl⟩ := List.mem_map.mp hk
  exact Nat.lt_of_le_of_lt (Nat.sub_le _ _) h
theorem tbl_get {n : Nat} {f : Nat → Bool} {m : Nat} (h : m < n) : atI ((List.range n).map fun m => D.bl (f m)) ((m : Nat) : Int) = some (.bl (f m)) := atI_get (by rw [List.getElem?_map, List.getElem?_range h]; rfl)
theorem range_natD (n : Nat) (p : Nat → Bool) : ((List.range n).filter p).map natD = ((List.range n).filter p).map natD := rfl
theorem okLs_sort {cs : List Cq} {ss : List Sd2} (h : okLs cs ss) : okLs cs (sortSd ss) := by
  refine ⟨h.1, by rw [(sortSd_perm ss).length_eq]; exact h.2.1, fun p hp => ⟨(h.2.2 p hp).1, fun s hs => (h.2.2 p hp).2 s ((sortSd_perm ss).mem_iff.mp hs)⟩⟩
theorem w_light_sets {cs : List Cq} {ss : List Sd2} (h : okLs cs ss) (k : P.rt (.lst ((lightL cs ss).map dS))) : wps K b (t_light_sets K C) [.d (dCs C cs), .d (dS ss), .u, .u, .u, .u, .u, .u] P := by
  unfold t_light_sets
  have hs12 := h.2.1
  have h12 : 2 ^ ss.length ≤ 4096 := Nat.le_trans (Nat.pow_le_pow_right (by decide) hs12) (by decide)
  refine wps_seq (wps_asg (wpe_l (wpl_cb (wpa_cons (wpe_var (x := dS ss) (by rfl) (wpa_nil (rcl_sorted 9 (by decide) (encSs_ok 8 _) (allAlikeS _) (sortableS _) ?_)))))))
  rw [sortSd_map]
  obtain ⟨os, hos⟩ : ∃ os, sortSd ss = os := ⟨_, rfl⟩
  have hol : os.length = ss.length := by rw [← hos]; exact (sortSd_perm ss).length_eq
  have hoo : okLs cs os := by rw [← hos]; exact okLs_sort h
  unfold lightL at k
  rw [hos] at k ⊢
  rw [← hol] at k h12
  refine wps_seq (wps_asg (wpe_callx (wpa_cons (wpe_var (x := dCs C cs) (by rfl) (wpa_cons (wpe_var (x := dS os) (by rfl) (wpa_nil ⟨(cs, os), rfl, hoo, fun x hx => ?_⟩)))))))
  subst hx
  refine wps_seq (wps_asg (wpe_l (wpl_flt (fun m => !hvM cs os m) natD (wpi_rng1 (wpa_cons (wpe_cb (wpa_cons (wpe_var (x := .lst ((List.range (2 ^ os.length)).map fun m => D.bl (hvM cs os m))) (by rfl) (wpa_nil (rc_lenL ?_)))))))))) 
  rw [List.length_map, List.length_range]
  refine wpa_nil ⟨((2 ^ os.length : Nat) : Int), rfl, Int.le_trans (by decide) (Int.natCast_nonneg _), Int.ofNat_le.mpr (show 2 ^ os.length ≤ 100000 by omega), by rw [rangeD_len, Int.toNat_natCast]; omega, fun m d hd => ?_, ?_⟩
  · obtain ⟨hm, rfl⟩ := rangeD_at hd
    rw [Int.toNat_natCast] at hm
    rw [Int.zero_add]
    exact wpt_not (wpt_B (wpe_op (wpe_var (x := .lst ((List.range (2 ^ os.length)).map fun m => D.bl (hvM cs os m))) (by rfl) (wpe_var (x := .int (m : Nat)) (by rfl) (rd_ixl (tbl_get hm) ⟨_, rfl, rfl, fun _ => wpe_var (x := .int (m : Nat)) (by rfl) rfl⟩)))))
  rw [rangeD_len, Int.toNat_natCast]
  obtain ⟨lm, hlm⟩ : ∃ lm, (List.range (2 ^ os.length)).filter (fun m => !hvM cs os m) = lm := ⟨_, rfl⟩
  rw [hlm] at k ⊢
  have hlml : lm.length ≤ 4096 := by
    have := List.length_filter_le (fun m => !hvM cs os m) (List.range (2 ^ os.length))
    rw [List.length_range, hlm] at this; omega
  refine wps_seq (wps_asg (wpe_l (wpl_fltL lm natD 0 (fun m => (moreM m os.length).all fun k => hvM cs os k) (by show 6 < 8; decide) (wpi_list (wpe_var (x := .lst (lm.map natD)) (by rfl) ⟨_, rfl, rfl, by omega, fun j m hj hm => ?_, ?_⟩)))))
  · have hmk : m < 2 ^ os.length := by rw [← hlm] at hm; exact List.mem_range.mp (List.mem_filter.mp hm).1
    refine wpt_B (wpe_cb (wpa_cons (wpe_l (wpl_gen1 (R := fun j y => ∃ c : Bool, y = .bl c ∧ ∃ x, (moreM m os.length)[j]? = some x ∧ c = hvM cs os x) (wpi_list (wpe_callx (wpa_cons (wpe_var (x := natD m) (by rfl) (wpa_cons (wpe_cb (wpa_cons (wpe_var (x := dS os) (by rfl) (wpa_nil (rc_lenL ?_))))))))))))))
    rw [List.length_map]
    refine wpa_nil ⟨(m, os.length), rfl, by show os.length ≤ 100; omega, fun x hx => ?_⟩
    subst hx
    have hml : (moreM m os.length).length ≤ os.length := by
      unfold moreM
      rw [List.length_map]
      have := List.length_filter_le (fun j => !m.testBit j) (List.range os.length)
      rw [List.length_range] at this; exact this
    refine ⟨_, rfl, by rw [List.length_map]; show (moreM m os.length).length ≤ 100000; omega, fun j d hd => ?_, fun acc hl hR => ?_⟩
    · obtain ⟨x, hx, rfl, hxm⟩ := map_mem hd
      exact wpe_op (wpe_var (x := .lst ((List.range (2 ^ os.length)).map fun m => D.bl (hvM cs os m))) (by rfl) (wpe_var (x := natD x) (by rfl) (rd_ixl (tbl_get (moreM_lt hmk x hxm)) ⟨_, rfl, x, hx, rfl⟩)))
    · obtain ⟨bs, rfl, hbs⟩ := maps_of hR
      rw [List.length_map, List.length_map] at hl
      refine wpa_nil (rc_all ⟨_, rfl, ?_⟩)
      have : bs = (moreM m os.length).map fun x => hvM cs os x := by
        refine list_of_get (by rw [List.length_map]; exact hl) fun j y z => ?_
        obtain ⟨x, hx, rfl⟩ := hbs j y z
        rw [List.getElem?_map]
        have hx' : (moreM m os.length)[j]? = some x := hx
        rw [hx']; rfl
      rw [this, List.all_map]; rfl
  · refine wps_ret (wpe_callx (wpa_cons (wpe_var (x := dS os) (by rfl) (wpa_cons (wpe_var (x := .lst ((lm.filter fun m => (moreM m os.length).all fun k => hvM cs os k).map natD)) (by rfl) (wpa_nil ⟨(os, lm.filter fun m => (moreM m os.length).all fun k => hvM cs os k), rfl, ⟨by show os.length ≤ 100; omega, ?_⟩, fun x hx => ?_⟩))))))
    · have := List.length_filter_le (fun m => (moreM m os.length).all fun k => hvM cs os k) lm
      exact Nat.le_trans this (by omega)
    · rw [hx]; exact k
theorem w_heavy_sets {cs : List Cq} {ss : List Sd2} (h : okLs cs ss) (k : P.rt (.lst ((heavyL cs ss).map dS))) : wps K b (t_heavy_sets K C) [.d (dCs C cs), .d (dS ss), .u, .u, .u, .u, .u, .u] P := by
  unfold t_heavy_sets
  have hs12 := h.2.1
  have h12 : 2 ^ ss.length ≤ 4096 := Nat.le_trans (Nat.pow_le_pow_right (by decide) hs12) (by decide)
  refine wps_seq (wps_asg (wpe_l (wpl_cb (wpa_cons (wpe_var (x := dS ss) (by rfl) (wpa_nil (rcl_sorted 9 (by decide) (encSs_ok 8 _) (allAlikeS _) (sortableS _) ?_)))))))
  rw [sortSd_map]
  obtain ⟨os, hos⟩ : ∃ os, sortSd ss = os := ⟨_, rfl⟩
  have hol : os.length = ss.length := by rw [← hos]; exact (sortSd_perm ss).length_eq
  have hoo : okLs cs os := by rw [← hos]; exact okLs_sort h
  unfold heavyL at k
  rw [hos] at k ⊢
  rw [← hol] at k h12
  refine wps_seq (wps_asg (wpe_callx (wpa_cons (wpe_var (x := dCs C cs) (by rfl) (wpa_cons (wpe_var (x := dS os) (by rfl) (wpa_nil ⟨(cs, os), rfl, hoo, fun x hx => ?_⟩)))))))
  subst hx
  refine wps_seq (wps_asg (wpe_l (wpl_flt (fun m => hvM cs os m) natD (wpi_rng1 (wpa_cons (wpe_cb (wpa_cons (wpe_var (x := .lst ((List.range (2 ^ os.length)).map fun m => D.bl (hvM cs os m))) (by rfl) (wpa_nil (rc_lenL ?_)))))))))) 
  rw [List.length_map, List.length_range]
  refine wpa_nil ⟨((2 ^ os.length : Nat) : Int), rfl, Int.le_trans (by decide) (Int.natCast_nonneg _), Int.ofNat_le.mpr (show 2 ^ os.length ≤ 100000 by omega), by rw [rangeD_len, Int.toNat_natCast]; omega, fun m d hd => ?_, ?_⟩
  · obtain ⟨hm, rfl⟩ := rangeD_at hd
    rw [Int.toNat_natCast] at hm
    rw [Int.zero_add]
    exact wpt_B (wpe_op (wpe_var (x := .lst ((List.range (2 ^ os.length)).map fun m => D.bl (hvM cs os m))) (by rfl) (wpe_var (x := .int (m : Nat)) (by rfl) (rd_ixl (tbl_get hm) ⟨_, rfl, rfl, fun _ => wpe_var (x := .int (m : Nat)) (by rfl) rfl⟩))))
  rw [rangeD_len, Int.toNat_natCast]
  obtain ⟨lm, hlm⟩ : ∃ lm, (List.range (2 ^ os.length)).filter (fun m => hvM cs os m) = lm := ⟨_, rfl⟩
  rw [hlm] at k ⊢
  have hlml : lm.length ≤ 4096 := by
    have := List.length_filter_le (fun m => hvM cs os m) (List.range (2 ^ os.length))
    rw [List.length_range, hlm] at this; omega
  refine wps_seq (wps_asg (wpe_l (wpl_fltL lm natD 0 (fun m => !(lessM m os.length).any fun k => hvM cs os k) (by show 6 < 8; decide) (wpi_list (wpe_var (x := .lst (lm.map natD)) (by rfl) ⟨_, rfl, rfl, by omega, fun j m hj hm => ?_, ?_⟩)))))
  · have hmk : m < 2 ^ os.length := by rw [← hlm] at hm; exact List.mem_range.mp (List.mem_filter.mp hm).1
    refine wpt_not (wpt_B (wpe_cb (wpa_cons (wpe_l (wpl_gen1 (R := fun j y => ∃ c : Bool, y = .bl c ∧ ∃ x, (lessM m os.length)[j]? = some x ∧ c = hvM cs os x) (wpi_list (wpe_callx (wpa_cons (wpe_var (x := natD m) (by rfl) (wpa_cons (wpe_cb (wpa_cons (wpe_var (x := dS os) (by rfl) (wpa_nil (rc_lenL ?_)))))))))))))))
    rw [List.length_map]
    refine wpa_nil ⟨(m, os.length), rfl, by show os.length ≤ 100; omega, fun x hx => ?_⟩
    subst hx
    have hml : (lessM m os.length).length ≤ os.length := by
      unfold lessM
      rw [List.length_map]
      have := List.length_filter_le (fun j => m.testBit j) (List.range os.length)
      rw [List.length_range] at this; exact this
    refine ⟨_, rfl, by rw [List.length_map]; show (lessM m os.length).length ≤ 100000; omega, fun j d hd => ?_, fun acc hl hR => ?_⟩
    · obtain ⟨x, hx, rfl, hxm⟩ := map_mem hd
      exact wpe_op (wpe_var (x := .lst ((List.range (2 ^ os.length)).map fun m => D.bl (hvM cs os m))) (by rfl) (wpe_var (x := natD x) (by rfl) (rd_ixl (tbl_get (lessM_lt hmk x hxm)) ⟨_, rfl, x, hx, rfl⟩)))
    · obtain ⟨bs, rfl, hbs⟩ := maps_of hR
      rw [List.length_map, List.length_map] at hl
      refine wpa_nil (rc_any ⟨_, rfl, ?_⟩)
      have : bs = (lessM m os.length).map fun x => hvM cs os x := by
        refine list_of_get (by rw [List.length_map]; exact hl) fun j y z => ?_
        obtain ⟨x, hx, rfl⟩ := hbs j y z
        rw [List.getElem?_map]
        have hx' : (lessM m os.length)[j]? = some x := hx
        rw [hx']; rfl
      rw [this, List.any_map]; rfl
  · refine wps_ret (wpe_callx (wpa_cons (wpe_var (x := dS os) (by rfl) (wpa_cons (wpe_var (x := .lst ((lm.filter fun m => !(lessM m os.length).any fun k => hvM cs os k).map natD)) (by rfl) (wpa_nil ⟨(os, lm.filter fun m => !(lessM m os.length).any fun k => hvM cs os k), rfl, ⟨by show os.length ≤ 100; omega, ?_⟩, fun x hx => ?_⟩))))))
    · have := List.length_filter_le (fun m => !(lessM m os.length).any fun k => hvM cs os k) lm
      exact Nat.le_trans this (by omega)
    · rw [hx]; exact k
end
end DL

namespace DL
open PySem PySem.Spec PyProof.Rows L2
section
variable {K : PySem.W.Frag} {C : Addr} {vs : List V} {H : Hp} {Q : VK} {EE : XK}
theorem ln_can_fill (h : sp_can_fill K C vs H Q EE) : vs.length = 2 := ln_x h fun _ => rfl
theorem r_can_fill (cf : CF K C) (h : sp_can_fill K C vs H Q EE) : t_can_fill K C (De Q) (L2.start ["weights", "allowances", "family", "groups"] vs) H := r_x2 (N := ["weights", "allowances", "family", "groups"]) h (fun b a hp => w_can_fill hp.1 hp.2 rfl)
theorem ln_has_room_for_each_seat (h : sp_has_room_for_each_seat K C vs H Q EE) : vs.length = 2 := ln_x h fun _ => rfl
theorem r_has_room_for_each_seat (cf : CF K C) (h : sp_has_room_for_each_seat K C vs H Q EE) : t_has_room_for_each_seat K C (De Q) (L2.start ["council", "sides"] vs) H := r_x2 (N := ["council", "sides"]) h (fun b a hp => w_has_room_for_each_seat hp.1 hp.2 fun c hc => ⟨c, rfl, hc⟩)
theorem ln_grown_families (h : sp_grown_families K C vs H Q EE) : vs.length = 3 := ln_x h fun _ => rfl
theorem r_grown_families (cf : CF K C) (h : sp_grown_families K C vs H Q EE) : t_grown_families K C (De Q) (L2.start ["families", "fitting", "wholes", "grown", "family", "groups", "whole"] vs) H := r_x2 (N := ["families", "fitting", "wholes", "grown", "family", "groups", "whole"]) h (fun b a hp => w_grown_families hp rfl)
theorem ln_members (h : sp_members K C vs H Q EE) : vs.length = 2 := ln_x h fun _ => rfl
theorem r_members (cf : CF K C) (h : sp_members K C vs H Q EE) : t_members K C (De Q) (L2.start ["things", "mask", "at", "thing"] vs) H := r_x2 (N := ["things", "mask", "at", "thing"]) h (fun b a hp => w_members hp rfl)
theorem ln_one_more (h : sp_one_more K C vs H Q EE) : vs.length = 2 := ln_x h fun _ => rfl
theorem r_one_more (cf : CF K C) (h : sp_one_more K C vs H Q EE) : t_one_more K C (De Q) (L2.start ["mask", "many", "at"] vs) H := r_x2 (N := ["mask", "many", "at"]) h (fun b a hp => w_one_more hp rfl)
theorem ln_one_less (h : sp_one_less K C vs H Q EE) : vs.length = 2 := ln_x h fun _ => rfl
theorem r_one_less (cf : CF K C) (h : sp_one_less K C vs H Q EE) : t_one_less K C (De Q) (L2.start ["mask", "many", "at"] vs) H := r_x2 (N := ["mask", "many", "at"]) h (fun b a hp => w_one_less hp rfl)
theorem ln_heavy_table (h : sp_heavy_table K C vs H Q EE) : vs.length = 2 := ln_x h fun _ => rfl
theorem r_heavy_table (cf : CF K C) (h : sp_heavy_table K C vs H Q EE) : t_heavy_table K C (De Q) (L2.start ["councils", "sides", "able", "wholes", "fitting", "table", "at", "fitting_here", "council", "families", "groups"] vs) H := r_x2 (N := ["councils", "sides", "able", "wholes", "fitting", "table", "at", "fitting_here", "council", "families", "groups"]) h (fun b a hp => w_heavy_table hp rfl)
theorem ln_is_light (h : sp_is_light K C vs H Q EE) : vs.length = 2 := ln_x h fun _ => rfl
theorem r_is_light (cf : CF K C) (h : sp_is_light K C vs H Q EE) : t_is_light K C (De Q) (L2.start ["councils", "sides", "council"] vs) H := r_x2 (N := ["councils", "sides", "council"]) h (fun b a hp => w_is_light hp rfl)
theorem ln_listed (h : sp_listed K C vs H Q EE) : vs.length = 2 := ln_x h fun _ => rfl
theorem r_listed (cf : CF K C) (h : sp_listed K C vs H Q EE) : t_listed K C (De Q) (L2.start ["sides", "masks", "mask"] vs) H := r_x2 (N := ["sides", "masks", "mask"]) h (fun b a hp => w_listed hp.1 hp.2 rfl)
theorem ln_light_sets (h : sp_light_sets K C vs H Q EE) : vs.length = 2 := ln_x h fun _ => rfl
theorem r_light_sets (cf : CF K C) (h : sp_light_sets K C vs H Q EE) : t_light_sets K C (De Q) (L2.start ["councils", "sides", "ordered", "is_heavy", "light", "greatest", "mask", "more"] vs) H := r_x2 (N := ["councils", "sides", "ordered", "is_heavy", "light", "greatest", "mask", "more"]) h (fun b a hp => w_light_sets hp rfl)
theorem ln_heavy_sets (h : sp_heavy_sets K C vs H Q EE) : vs.length = 2 := ln_x h fun _ => rfl
theorem r_heavy_sets (cf : CF K C) (h : sp_heavy_sets K C vs H Q EE) : t_heavy_sets K C (De Q) (L2.start ["councils", "sides", "ordered", "is_heavy", "heavy", "least", "mask", "less"] vs) H := r_x2 (N := ["councils", "sides", "ordered", "is_heavy", "heavy", "least", "mask", "less"]) h (fun b a hp => w_heavy_sets hp rfl)
end
end DL

namespace DL
open PySem PySem.Spec PyProof.Rows L2
/-! subsets: inclusion by masks -/
theorem subL_at {α : Type} {xs : List α} {m j : Nat} (hx : xs.Nodup) (hj : j < xs.length) : xs[j] ∈ subL xs m ↔ m.testBit j = true := by
  rw [subL_mem]
  constructor
  · rintro ⟨i, h1, h2⟩
    have hi := (List.getElem?_eq_some_iff.mp h1).1
    have : i = j := (List.getElem?_inj hi hx).mp (h1.trans (List.getElem?_eq_getElem hj).symm)
    rw [← this]; exact h2
  · intro h
    exact ⟨j, List.getElem?_eq_getElem hj, h⟩
def within (a c : List Sd2) : Prop := ∀ s ∈ a, s ∈ c
theorem within_iff {os : List Sd2} {m k : Nat} (hx : os.Nodup) : within (subL os m) (subL os k) ↔ ∀ j, j < os.length → m.testBit j = true → k.testBit j = true := by
  constructor
  · intro h j hj hm
    exact (subL_at hx hj).mp (h _ ((subL_at hx hj).mpr hm))
  · intro h s hs
    obtain ⟨j, h1, h2⟩ := subL_mem.mp hs
    have hj := (List.getElem?_eq_some_iff.mp h1).1
    exact subL_mem.mpr ⟨j, h1, h j hj h2⟩
theorem mask_ext {n m k : Nat} (hm : m < 2 ^ n) (hk : k < 2 ^ n) (h : ∀ j, j < n → m.testBit j = k.testBit j) : m = k := by
  refine Nat.eq_of_testBit_eq fun j => ?_
  by_cases hj : j < n
  · exact h j hj
  · have e : 2 ^ n ≤ 2 ^ j := Nat.pow_le_pow_right (by decide) (by omega)
    rw [Nat.testBit_lt_two_pow (Nat.lt_of_lt_of_le hm e), Nat.testBit_lt_two_pow (Nat.lt_of_lt_of_le hk e)]
theorem subL_inj {os : List Sd2} {m k : Nat} (hx : os.Nodup) (hm : m < 2 ^ os.length) (hk : k < 2 ^ os.length) (h : subL os m = subL os k) : m = k := by
  have h1 := (within_iff (m := m) (k := k) hx).mp (fun s hs => by rw [← h]; exact hs)
  have h2 := (within_iff (m := k) (k := m) hx).mp (fun s hs => by rw [h]; exact hs)
  refine mask_ext hm hk fun j hj => ?_
  rw [Bool.eq_iff_iff]
  exact ⟨h1 j hj, h2 j hj⟩
/-- part of a mask -/
def part (n m k : Nat) : Prop := ∀ j, j < n → m.testBit j = true → k.testBit j = true
theorem subL_part {α : Type} : ∀ {xs : List α} {m k : Nat}, part xs.length m k → (subL xs m).Sublist (subL xs k)
  | [], _, _, _ => .slnil
  | x :: xs, m, k, h => by
    have ih : (subL xs (m / 2)).Sublist (subL xs (k / 2)) := subL_part fun j hj hm => by
      rw [testBit_half] at hm ⊢
      exact h (j + 1) (by simpa using hj) hm
    show (if m.testBit 0 = true then x :: subL xs (m / 2) else subL xs (m / 2)).Sublist (if k.testBit 0 = true then x :: subL xs (k / 2) else subL xs (k / 2))
    by_cases hm : m.testBit 0 = true
    · rw [if_pos hm, if_pos (h 0 (by simp) hm)]; exact ih.cons_cons x
    · rw [if_neg hm]
      by_cases hk : k.testBit 0 = true
      · rw [if_pos hk]; exact ih.cons x
      · rw [if_neg hk]; exact ih
theorem hvM_mono {cs : List Cq} {os : List Sd2} {m k : Nat} (hc : ∀ p ∈ cs, (∀ x ∈ p.1, 0 ≤ x) ∧ ∀ r ∈ allows p.1 p.2 os, 0 ≤ r) (h : part os.length m k) (hm : hvM cs os m = true) : hvM cs os k = true := by
  obtain ⟨p, hp, hz⟩ := List.any_eq_true.mp hm
  refine List.any_eq_true.mpr ⟨p, hp, ?_⟩
  obtain ⟨h1, h2⟩ := hc p hp
  refine hpk_sub h1 (fun b hb => h2 b ?_) ?_ hz
  · unfold allows at hb ⊢
    obtain ⟨s, hs, rfl⟩ := List.mem_map.mp hb
    exact List.mem_map.mpr ⟨s, (subL_sub _ _).subset hs, rfl⟩
  · unfold allows
    exact (subL_part h).map _
theorem or_bit {m j i : Nat} : (m ||| 2 ^ j).testBit i = (m.testBit i || decide (j = i)) := by
  rw [Nat.testBit_or, Nat.testBit_two_pow]
theorem sub_bit {m j i : Nat} (h : m.testBit j = true) : (m - 2 ^ j).testBit i = (m.testBit i && !decide (j = i)) := by
  have hle : 2 ^ j ≤ m := Nat.ge_two_pow_of_testBit h
  have hz : (2 ^ j) &&& m = 2 ^ j := by
    refine Nat.eq_of_testBit_eq fun i => ?_
    rw [Nat.testBit_and, Nat.testBit_two_pow]
    by_cases e : j = i
    · subst e; rw [decide_eq_true rfl, h]; rfl
    · rw [decide_eq_false e]; rfl
  obtain ⟨_, _, b3⟩ := sub_part hz
  rw [b3, Nat.testBit_two_pow]
theorem mem_more {m n k : Nat} : k ∈ moreM m n ↔ ∃ j, j < n ∧ m.testBit j = false ∧ k = m ||| 2 ^ j := by
  unfold moreM
  rw [List.mem_map]
  constructor
  · rintro ⟨j, hj, rfl⟩
    obtain ⟨h1, h2⟩ := List.mem_filter.mp hj
    exact ⟨j, List.mem_range.mp h1, by simpa using h2, rfl⟩
  · rintro ⟨j, h1, h2, rfl⟩
    exact ⟨j, List.mem_filter.mpr ⟨List.mem_range.mpr h1, by rw [h2]; rfl⟩, rfl⟩
theorem mem_less {m n k : Nat} : k ∈ lessM m n ↔ ∃ j, j < n ∧ m.testBit j = true ∧ k = m - 2 ^ j := by
  unfold lessM
  rw [List.mem_map]
  constructor
  · rintro ⟨j, hj, rfl⟩
    obtain ⟨h1, h2⟩ := List.mem_filter.mp hj
    exact ⟨j, List.mem_range.mp h1, h2, rfl⟩
  · rintro ⟨j, h1, h2, rfl⟩
    exact ⟨j, List.mem_filter.mpr ⟨List.mem_range.mpr h1, h2⟩, rfl⟩
/-! greatest and least masks -/
section
variable {n : Nat} {hv : Nat → Bool}
theorem great_ex (mono : ∀ m k, part n m k → hv m = true → hv k = true) : ∀ (d m : Nat), 2 ^ n - m = d → m < 2 ^ n → hv m = false → ∃ k, k < 2 ^ n ∧ part n m k ∧ hv k = false ∧ ∀ x ∈ moreM k n, hv x = true := fun d => by
  induction d using Nat.strongRecOn with
  | _ d ih =>
    intro m hd hm hl
    by_cases hall : ∀ x ∈ moreM m n, hv x = true
    · exact ⟨m, hm, fun _ _ h => h, hl, hall⟩
    · obtain ⟨x, hx, hxf⟩ : ∃ x, x ∈ moreM m n ∧ hv x = false := by
        refine Classical.byContradiction fun z => hall fun x hx => ?_
        cases e : hv x with
        | true => rfl
        | false => exact absurd ⟨x, hx, e⟩ z
      obtain ⟨j, hj, hb, rfl⟩ := mem_more.mp hx
      have hlt := moreM_lt hm _ hx
      have hgt : m < m ||| 2 ^ j := by
        refine Nat.lt_of_le_of_ne Nat.left_le_or fun e => ?_
        have := congrArg (fun z => z.testBit j) e
        simp only [or_bit, decide_true, Bool.or_true, hb] at this
        cases this
      obtain ⟨k, h1, h2, h3, h4⟩ := ih _ (by omega) (m ||| 2 ^ j) rfl hlt hxf
      exact ⟨k, h1, fun i hi hmi => h2 i hi (by rw [or_bit, hmi]; rfl), h3, h4⟩
theorem least_ex : ∀ (m : Nat), m < 2 ^ n → hv m = true → ∃ k, k < 2 ^ n ∧ part n k m ∧ hv k = true ∧ ∀ x ∈ lessM k n, hv x = false := fun m => by
  induction m using Nat.strongRecOn with
  | _ m ih =>
    intro hm hl
    by_cases hall : ∀ x ∈ lessM m n, hv x = false
    · exact ⟨m, hm, fun _ _ h => h, hl, hall⟩
    · obtain ⟨x, hx, hxf⟩ : ∃ x, x ∈ lessM m n ∧ hv x = true := by
        refine Classical.byContradiction fun z => hall fun x hx => ?_
        cases e : hv x with
        | false => rfl
        | true => exact absurd ⟨x, hx, e⟩ z
      obtain ⟨j, hj, hb, rfl⟩ := mem_less.mp hx
      have hle : 2 ^ j ≤ m := Nat.ge_two_pow_of_testBit hb
      have := Nat.two_pow_pos j
      obtain ⟨k, h1, h2, h3, h4⟩ := ih (m - 2 ^ j) (by omega) (by omega) hxf
      exact ⟨k, h1, fun i hi hmi => by have := h2 i hi hmi; rw [sub_bit hb, Bool.and_eq_true] at this; exact this.1, h3, h4⟩
theorem great_anti (mono : ∀ m k, part n m k → hv m = true → hv k = true) {m k : Nat} (hm : m < 2 ^ n) (hk : k < 2 ^ n) (h : part n m k) (h1 : ∀ x ∈ moreM m n, hv x = true) (h2 : hv k = false) : m = k := by
  refine mask_ext hm hk fun j hj => ?_
  cases hb : m.testBit j with
  | true => rw [h j hj hb]
  | false =>
    cases hc : k.testBit j with
    | false => rfl
    | true =>
      have hx := h1 (m ||| 2 ^ j) (mem_more.mpr ⟨j, hj, hb, rfl⟩)
      have := mono _ k (fun i hi hmi => by
        rw [or_bit, Bool.or_eq_true] at hmi
        rcases hmi with z | z
        · exact h i hi z
        · rw [← of_decide_eq_true z]; exact hc) hx
      rw [h2] at this; cases this
theorem least_anti (mono : ∀ m k, part n m k → hv m = true → hv k = true) {m k : Nat} (hm : m < 2 ^ n) (hk : k < 2 ^ n) (h : part n m k) (h1 : hv m = true) (h2 : ∀ x ∈ lessM k n, hv x = false) : m = k := by
  refine mask_ext hm hk fun j hj => ?_
  cases hb : m.testBit j with
  | true => rw [h j hj hb]
  | false =>
    cases hc : k.testBit j with
    | false => rfl
    | true =>
      have hx := h2 (k - 2 ^ j) (mem_less.mpr ⟨j, hj, hc, rfl⟩)
      have := mono m (k - 2 ^ j) (fun i hi hmi => by
        rw [sub_bit hc, h i hi hmi, Bool.true_and]
        by_cases e : j = i
        · subst e; rw [hb] at hmi; cases hmi
        · rw [decide_eq_false e]; rfl) h1
      rw [hx] at this; cases this
end
/-! what light_sets and heavy_sets return -/
structure EndsOk (L : List (List Sd2)) : Prop where
  srt : L.Pairwise fun a c => leD (dS a) (dS c) = true
  each : ∀ a ∈ L, a.Pairwise fun p q => leD (encS p) (encS q) = true
  nd : L.Nodup
  anti : ∀ a c, a ∈ L → c ∈ L → within a c → a = c
theorem ends_of {os : List Sd2} {ms : List Nat} (ho : os.Nodup) (hp : os.Pairwise fun p q => leD (encS p) (encS q) = true) (hl : ∀ m ∈ ms, m < 2 ^ os.length) (hn : ms.Nodup) (ha : ∀ m k, m ∈ ms → k ∈ ms → part os.length m k → m = k) : EndsOk (sortLS (ms.map (subL os))) := by
  have hm : ∀ a, a ∈ sortLS (ms.map (subL os)) → ∃ m ∈ ms, a = subL os m := fun a h => by
    obtain ⟨m, h1, h2⟩ := List.mem_map.mp ((sortLS_perm _).mem_iff.mp h)
    exact ⟨m, h1, h2.symm⟩
  refine ⟨sortLS_pw _, fun a h => ?_, (sortLS_perm _).nodup_iff.mpr ?_, fun a c h1 h2 h3 => ?_⟩
  · obtain ⟨m, _, rfl⟩ := hm a h
    exact hp.sublist (subL_sub _ _)
  · rw [List.nodup_iff_pairwise_ne, List.pairwise_map]
    exact (List.nodup_iff_pairwise_ne.mp hn).imp_of_mem fun h1 h2 h3 z => h3 (subL_inj ho (hl _ h1) (hl _ h2) z)
  · obtain ⟨m, m1, rfl⟩ := hm a h1
    obtain ⟨k, k1, rfl⟩ := hm c h2
    rw [ha m k m1 k1 ((within_iff ho).mp h3)]
def okMono (cs : List Cq) (ss : List Sd2) : Prop := ss.Nodup ∧ okLs cs ss
theorem sort_nd {ss : List Sd2} (h : ss.Nodup) : (sortSd ss).Nodup := (sortSd_perm ss).nodup_iff.mpr h
theorem hvM_monoS {cs : List Cq} {ss : List Sd2} (h : okLs cs ss) : ∀ m k, part ss.length m k → hvM cs (sortSd ss) m = true → hvM cs (sortSd ss) k = true := fun m k hp hm =>
  hvM_mono (fun p hp => ⟨fun x hx => by have := (((h.2.2 p hp).1).2.2.1 x hx).1; omega, allows_nnD (h.2.2 p hp).1 fun s hs => (h.2.2 p hp).2 s ((sortSd_perm ss).mem_iff.mp hs)⟩) (by rw [(sortSd_perm ss).length_eq]; exact hp) hm
theorem light_spec {cs : List Cq} {ss : List Sd2} (hn : ss.Nodup) (h : okLs cs ss) : EndsOk (lightL cs ss) ∧ (∀ m, m < 2 ^ ss.length → ((∃ c ∈ lightL cs ss, within (subL (sortSd ss) m) c) ↔ hvM cs (sortSd ss) m = false)) ∧ ∀ a ∈ lightL cs ss, ∃ m, m < 2 ^ ss.length ∧ a = subL (sortSd ss) m ∧ hvM cs (sortSd ss) m = false := by
  have hl : (sortSd ss).length = ss.length := (sortSd_perm ss).length_eq
  have mono := hvM_monoS h
  obtain ⟨ms, hms⟩ : ∃ ms, ms = ((List.range (2 ^ ss.length)).filter fun m => !hvM cs (sortSd ss) m).filter fun m => (moreM m ss.length).all fun k => hvM cs (sortSd ss) k := ⟨_, rfl⟩
  have hmem : ∀ m, m ∈ ms ↔ m < 2 ^ ss.length ∧ hvM cs (sortSd ss) m = false ∧ ∀ x ∈ moreM m ss.length, hvM cs (sortSd ss) x = true := fun m => by
    rw [hms, List.mem_filter, List.mem_filter, List.mem_range, List.all_eq_true]
    constructor
    · rintro ⟨⟨h1, h2⟩, h3⟩; exact ⟨h1, by simpa using h2, h3⟩
    · rintro ⟨h1, h2, h3⟩; exact ⟨⟨h1, by rw [h2]; rfl⟩, h3⟩
  have he : lightL cs ss = sortLS (ms.map (subL (sortSd ss))) := by rw [hms]; rfl
  have hin : ∀ a, a ∈ lightL cs ss ↔ ∃ m ∈ ms, a = subL (sortSd ss) m := fun a => by
    rw [he, (sortLS_perm _).mem_iff, List.mem_map]
    exact ⟨fun ⟨m, h1, h2⟩ => ⟨m, h1, h2.symm⟩, fun ⟨m, h1, h2⟩ => ⟨m, h1, h2.symm⟩⟩
  refine ⟨?_, fun m hm => ⟨?_, fun hz => ?_⟩, fun a ha => ?_⟩
  · rw [he]
    refine ends_of (sort_nd hn) (sortSd_pw ss) (fun m hm => by rw [hl]; exact ((hmem m).mp hm).1) ?_ fun m k hm hk hp => ?_
    · rw [hms]; exact (List.nodup_range.filter _).filter _
    · rw [hl] at hp
      exact great_anti mono ((hmem m).mp hm).1 ((hmem k).mp hk).1 hp ((hmem m).mp hm).2.2 ((hmem k).mp hk).2.1
  · rintro ⟨c, hc, hw⟩
    obtain ⟨k, hk, rfl⟩ := (hin c).mp hc
    have hp := (within_iff (sort_nd hn)).mp hw
    rw [hl] at hp
    cases e : hvM cs (sortSd ss) m with
    | false => rfl
    | true => have := mono m k hp e; rw [((hmem k).mp hk).2.1] at this; cases this
  · obtain ⟨k, h1, h2, h3, h4⟩ := great_ex mono _ m rfl hm hz
    exact ⟨_, (hin _).mpr ⟨k, (hmem k).mpr ⟨h1, h3, h4⟩, rfl⟩, (within_iff (sort_nd hn)).mpr (by rw [hl]; exact h2)⟩
  · obtain ⟨m, hm, rfl⟩ := (hin a).mp ha
    exact ⟨m, ((hmem m).mp hm).1, rfl, ((hmem m).mp hm).2.1⟩
theorem heavy_spec {cs : List Cq} {ss : List Sd2} (hn : ss.Nodup) (h : okLs cs ss) : EndsOk (heavyL cs ss) ∧ (∀ m, m < 2 ^ ss.length → ((∃ c ∈ heavyL cs ss, within c (subL (sortSd ss) m)) ↔ hvM cs (sortSd ss) m = true)) ∧ ∀ a ∈ heavyL cs ss, ∃ m, m < 2 ^ ss.length ∧ a = subL (sortSd ss) m ∧ hvM cs (sortSd ss) m = true := by
  have hl : (sortSd ss).length = ss.length := (sortSd_perm ss).length_eq
  have mono := hvM_monoS h
  obtain ⟨ms, hms⟩ : ∃ ms, ms = ((List.range (2 ^ ss.length)).filter fun m => hvM cs (sortSd ss) m).filter fun m => !(lessM m ss.length).any fun k => hvM cs (sortSd ss) k := ⟨_, rfl⟩
  have hmem : ∀ m, m ∈ ms ↔ m < 2 ^ ss.length ∧ hvM cs (sortSd ss) m = true ∧ ∀ x ∈ lessM m ss.length, hvM cs (sortSd ss) x = false := fun m => by
    rw [hms, List.mem_filter, List.mem_filter, List.mem_range]
    constructor
    · rintro ⟨⟨h1, h2⟩, h3⟩
      refine ⟨h1, h2, fun x hx => ?_⟩
      cases e : hvM cs (sortSd ss) x with
      | false => rfl
      | true =>
        have : (lessM m ss.length).any (fun k => hvM cs (sortSd ss) k) = true := List.any_eq_true.mpr ⟨x, hx, e⟩
        rw [this] at h3; cases h3
    · rintro ⟨h1, h2, h3⟩
      refine ⟨⟨h1, h2⟩, ?_⟩
      have : (lessM m ss.length).any (fun k => hvM cs (sortSd ss) k) = false := by
        rw [List.any_eq_false]
        intro x hx
        rw [h3 x hx]; exact Bool.false_ne_true
      rw [this]; rfl
  have he : heavyL cs ss = sortLS (ms.map (subL (sortSd ss))) := by rw [hms]; rfl
  have hin : ∀ a, a ∈ heavyL cs ss ↔ ∃ m ∈ ms, a = subL (sortSd ss) m := fun a => by
    rw [he, (sortLS_perm _).mem_iff, List.mem_map]
    exact ⟨fun ⟨m, h1, h2⟩ => ⟨m, h1, h2.symm⟩, fun ⟨m, h1, h2⟩ => ⟨m, h1, h2.symm⟩⟩
  refine ⟨?_, fun m hm => ⟨?_, fun hz => ?_⟩, fun a ha => ?_⟩
  · rw [he]
    refine ends_of (sort_nd hn) (sortSd_pw ss) (fun m hm => by rw [hl]; exact ((hmem m).mp hm).1) ?_ fun m k hm hk hp => ?_
    · rw [hms]; exact (List.nodup_range.filter _).filter _
    · rw [hl] at hp
      exact least_anti mono ((hmem m).mp hm).1 ((hmem k).mp hk).1 hp ((hmem m).mp hm).2.1 ((hmem k).mp hk).2.2
  · rintro ⟨c, hc, hw⟩
    obtain ⟨k, hk, rfl⟩ := (hin c).mp hc
    have hp := (within_iff (sort_nd hn)).mp hw
    rw [hl] at hp
    exact mono k m hp ((hmem k).mp hk).2.1
  · obtain ⟨k, h1, h2, h3, h4⟩ := least_ex m hm hz
    exact ⟨_, (hin _).mpr ⟨k, (hmem k).mpr ⟨h1, h3, h4⟩, rfl⟩, (within_iff (sort_nd hn)).mpr (by rw [hl]; exact h2)⟩
  · obtain ⟨m, hm, rfl⟩ := (hin a).mp ha
    exact ⟨m, ((hmem m).mp hm).1, rfl, ((hmem m).mp hm).2.1⟩
/-! seats of one weight -/
theorem fill_unit {w : Int} (h1 : 1 ≤ w) : ∀ {n : Nat} {R : List Int}, (∀ r ∈ R, 0 ≤ r) → (Fill (List.replicate n w) R ↔ (n : Int) ≤ (R.map fun r => r / w).sum)
  | 0, R, hR => by
    refine ⟨fun _ => ?_, fun _ => trivial⟩
    refine sum_nn fun x hx => ?_
    obtain ⟨r, hr, rfl⟩ := List.mem_map.mp hx
    exact Int.ediv_nonneg (hR r hr) (by omega)
  | n + 1, R, hR => by
    have ext : ∀ r ∈ R, (R.map fun r => r / w).sum = r / w + ((R.erase r).map fun r => r / w).sum := fun r hr => by
      have := sum_perm ((List.perm_cons_erase hr).map fun r => r / w)
      rw [this]; rfl
    have step : ∀ r, w ≤ r → (r - w) / w = r / w - 1 := fun r hr => by
      have : r = (r - w) + w * 1 := by omega
      have e := Int.add_mul_ediv_left (r - w) 1 (show w ≠ 0 by omega)
      rw [← this] at e
      omega
    have nn : ∀ r ∈ R, w ≤ r → ∀ x ∈ (r - w) :: R.erase r, 0 ≤ x := fun r hr hw x hx => by
      rcases List.mem_cons.mp hx with rfl | hx
      · omega
      · exact hR x (List.mem_of_mem_erase hx)
    show (∃ r ∈ R, w ≤ r ∧ Fill (List.replicate n w) ((r - w) :: R.erase r)) ↔ _
    constructor
    · rintro ⟨r, hr, hw, hf⟩
      have := (fill_unit h1 (nn r hr hw)).mp hf
      rw [List.map_cons, List.sum_cons, step r hw] at this
      rw [ext r hr]
      omega
    · intro hs
      obtain ⟨r, hr, hw⟩ : ∃ r ∈ R, w ≤ r := by
        refine Classical.byContradiction fun z => ?_
        have : (R.map fun r => r / w).sum ≤ 0 := by
          have g : ∀ (S : List Int), (∀ r ∈ S, 0 ≤ r ∧ r < w) → (S.map fun r => r / w).sum = 0 := fun S => by
            induction S with
            | nil => intro _; rfl
            | cons r S ih =>
              intro h
              have h0 := h r List.mem_cons_self
              rw [List.map_cons, List.sum_cons, ih fun x hx => h x (List.mem_cons_of_mem _ hx), Int.ediv_eq_zero_of_lt h0.1 h0.2]
              rfl
          rw [g R fun r hr => ⟨hR r hr, by
            refine Int.not_le.mp fun hw => z ⟨r, hr, hw⟩⟩]
          exact Int.le_refl _
        omega
      refine ⟨r, hr, hw, (fill_unit h1 (nn r hr hw)).mpr ?_⟩
      rw [List.map_cons, List.sum_cons, step r hw]
      rw [ext r hr] at hs
      omega
theorem hpk_unit {w : Int} {n : Nat} {R : List Int} (h1 : 1 ≤ w) (hR : ∀ r ∈ R, 0 ≤ r) : hpk (List.replicate n w) R = decide ((n : Int) ≤ (R.map fun r => r / w).sum) := by
  rw [Bool.eq_iff_iff, decide_eq_true_iff, ← fill_unit h1 hR, hpk_true]
  exact (fill_iff (fun x hx => by rw [(List.mem_replicate.mp hx).2]; omega) hR).symm
end DL

namespace GL
open PySem PySem.Spec PyProof.Rows L2 SeqAt
section
variable {X : Cx}
/-! != of two lists that hold the very same references and texts; of two tuples of two such lists -/
def Sm0 (v : V) : Prop := (∃ a, v = .ref a) ∨ ∃ s, v = .str s
theorem eqAt_sm {A : Around} {s : Shared} {v : V} {u1 u2 : Value} (h : Sm0 v) (r1 : RelV v u1) (r2 : RelV v u2) : EqAt A s u1 u2 true := by
  rcases h with ⟨a, rfl⟩ | ⟨x, rfl⟩
  · obtain rfl : u1 = Value.ref a := r1
    obtain rfl : u2 = Value.ref a := r2
    exact EqAt.same _
  · obtain ⟨t1, rfl⟩ := r1
    obtain ⟨t2, rfl⟩ := r2
    have := EqAt.str_str (A := A) (s := s) x t1 x t2
    rw [beq_self_eq_true] at this
    exact this
theorem vals_at : ∀ {xs : List V} {us : List Value} {j : Nat} {v : V}, Vals xs us → xs[j]? = some v → ∃ u, us[j]? = some u ∧ RelV v u
  | _, _, 0, _, .cons r _, e => by cases e; exact ⟨_, rfl, r⟩
  | _, _, j + 1, _, .cons _ rs, e => by
    obtain ⟨u, h1, h2⟩ := vals_at (j := j) rs (by simpa using e)
    exact ⟨u, by simpa using h1, h2⟩
  | _, _, _, _, .nil, e => by simp at e
theorem eqAt_items {A : Around} {s : Shared} {xs : List V} {u1 u2 : List Value} (h : ∀ v ∈ xs, Sm0 v) (r1 : Vals xs u1) (r2 : Vals xs u2) : ∀ j (h1 : j < u1.toArray.size) (h2 : j < u2.toArray.size), EqAt A s u1.toArray[j] u2.toArray[j] true := fun j h1 h2 => by
  have l1 := r1.length
  have hj : j < xs.length := by rw [List.size_toArray] at h1; omega
  have ev := List.getElem?_eq_getElem hj
  obtain ⟨a, e1, s1⟩ := vals_at r1 ev
  obtain ⟨c, e2, s2⟩ := vals_at r2 ev
  have g1 : u1.toArray[j] = a := by
    rw [List.getElem_toArray]
    have := List.getElem?_eq_some_iff.mp e1
    exact this.2
  have g2 : u2.toArray[j] = c := by
    rw [List.getElem_toArray]
    have := List.getElem?_eq_some_iff.mp e2
    exact this.2
  rw [g1, g2]
  exact eqAt_sm (h _ (List.getElem_mem hj)) s1 s2
theorem allTrue (n : Nat) : (List.range n).all (fun _ => true) = true := by rw [List.all_eq_true]; exact fun _ _ => rfl
def rNeL (K : PySem.W.Frag) : R2 := fun x y H Q => ∃ p q xs, x = .ref p ∧ y = .ref q ∧ SqL K H p xs ∧ SqL K H q xs ∧ (∀ v ∈ xs, Sm0 v) ∧ Q (.bl false) H
theorem op_neL (hu : X.A.units + 100 < cLine) : OpR X (compareOp .NotEq) (rNeL X.K) := by
  intro pins s σ H x y v u Q I rx ry h
  obtain ⟨p, q, xs, rfl, rfl, h1, h2, hs, k⟩ := h
  obtain rfl : v = Value.ref p := rx
  obtain rfl : u = Value.ref q := ry
  obtain ⟨i1, r1, l1, _⟩ := I.list h1
  obtain ⟨i2, r2, l2, _⟩ := I.list h2
  have := RcNeAt.lists (A := X.A) (s := s) (e := fun _ => true) l1.isList l2.isList (by rw [List.size_toArray, List.size_toArray, ← r1.length, ← r2.length]) (by omega) (eqAt_items hs r1 r2)
  rw [allTrue] at this
  exact this _ _ _ _ ⟨.bl _, H, I, rfl, k⟩
def rNeT (K : PySem.W.Frag) : R2 := fun x y H Q => ∃ t u p q a c xs ys, x = .ref t ∧ y = .ref u ∧ SqT K H t [.ref p, .ref q] ∧ SqT K H u [.ref a, .ref c] ∧ SqL K H p xs ∧ SqL K H a xs ∧ SqL K H q ys ∧ SqL K H c ys ∧ (∀ v ∈ xs, Sm0 v) ∧ (∀ v ∈ ys, Sm0 v) ∧ Q (.bl false) H
theorem eqAt_lists {pins : List (Addr × Obj)} {σ : L2.St} {H : Hp} {s : Shared} {A : Around} {p a : Addr} {xs : List V} (I : Inv X pins σ H s) (hu : A.units < cLine) (h1 : SqL X.K H p xs) (h2 : SqL X.K H a xs) (hs : ∀ v ∈ xs, Sm0 v) : EqAt A s (.ref p) (.ref a) true := by
  by_cases e : p = a
  · subst e; exact EqAt.same _
  · obtain ⟨i1, r1, l1, _⟩ := I.list h1
    obtain ⟨i2, r2, l2, _⟩ := I.list h2
    have := RcAt.lists (A := A) (s := s) (e := fun _ => true) l1.isList l2.isList (by rw [List.size_toArray, List.size_toArray, ← r1.length, ← r2.length]) hu (eqAt_items hs r1 r2)
    rw [allTrue] at this
    exact EqAt.of_refs e this
theorem op_neT (hu : X.A.units + 100 < cLine) : OpR X (compareOp .NotEq) (rNeT X.K) := by
  intro pins s σ H x y v w Q I rx ry h
  obtain ⟨t, u, p, q, a, c, xs, ys, rfl, rfl, ht, hu', p1, a1, q1, c1, sx, sy, k⟩ := h
  obtain rfl : v = Value.ref t := rx
  obtain rfl : w = Value.ref u := ry
  obtain ⟨i1, r1, l1, _⟩ := I.tuple ht
  obtain ⟨i2, r2, l2, _⟩ := I.tuple hu'
  have e1 : i1 = [.ref p, .ref q] := by
    cases r1 with | cons x1 r1 => cases r1 with | cons x2 r1 => (cases r1; obtain rfl : _ = Value.ref p := x1; obtain rfl : _ = Value.ref q := x2; rfl)
  have e2 : i2 = [.ref a, .ref c] := by
    cases r2 with | cons x1 r2 => cases r2 with | cons x2 r2 => (cases r2; obtain rfl : _ = Value.ref a := x1; obtain rfl : _ = Value.ref c := x2; rfl)
  subst e1 e2
  have hin : X.A.in1.units < cLine := by show X.A.units + 1 < cLine; omega
  have := RcNeAt.tuples (A := X.A) (s := s) (e := fun _ => true) l1 l2 (by omega) (fun j j1 j2 => by
    match j, j1, j2 with
    | 0, _, _ => exact eqAt_lists I hin p1 a1 sx
    | 1, _, _ => exact eqAt_lists I hin q1 c1 sy
    | j + 2, j1, _ => exact absurd j1 (by show ¬ j + 2 < 2; omega))
  rw [allTrue] at this
  exact this _ _ _ _ ⟨.bl _, H, I, rfl, k⟩
end
end GL
namespace DL
open PySem PySem.Spec PyProof.Rows L2
section
variable {K : PySem.W.Frag} {b : Bg} {F H F' H' H0 : Hp} {σ : L2.St} {E : Env'} {t u : TS} {te ta tb : TE} {c d : TT} {P : Po} {J : Hp → L2.St → Prop} {sl : List Nat} {Ψ : Bool → Prop}
theorem kNeL {X : Cx} (hu : X.A.units + 100 < cLine) (h : X.K = K := by rfl) : OpR X (compareOp .NotEq) (GL.rNeL K) := h ▸ GL.op_neL hu
theorem kNeT {X : Cx} (hu : X.A.units + 100 < cLine) (h : X.K = K := by rfl) : OpR X (compareOp .NotEq) (GL.rNeT K) := h ▸ GL.op_neT hu
/-- two lists of the same texts -/
theorem rd_neL {xs : List Str} {Φ : D → Prop} (q : Φ (.bl false)) : rd2 K b (GL.rNeL K) (.lst (xs.map .str)) (.lst (xs.map .str)) Φ := fun F H v u w d1 d2 Q k => by
  cases d1 with
  | lst s1 a1 => cases d2 with
    | lst s2 a2 =>
      have e1 := a1.strs
      have e2 := a2.strs
      subst e1 e2
      refine ⟨_, _, _, rfl, rfl, SqL.of (w.ex _ _ s1), SqL.of (w.ex _ _ s2), fun v hv => ?_, k _ F H _ .refl w (.bl _) q⟩
      obtain ⟨x, _, rfl⟩ := List.mem_map.mp hv
      exact .inr ⟨x, rfl⟩
/-! statements while more is known of slots that stay -/
structure JS (J : Hp → L2.St → Prop) (sl : List Nat) : Prop where
  up : ∀ F G σ, Ex F G → J F σ → J G σ
  set : ∀ F σ i v, i ∉ sl → J F σ → J F (σ.set i v)
structure OkJ (K : PySem.W.Frag) (b : Bg) (J : Hp → L2.St → Prop) (F0 H0 Fb : Hp) (P : Po) (Dn : Ends) : Prop where
  nx : ∀ σ F H E, Ex Fb F → Step b F0 H0 F H → Wd K b F H → EnvD K b H0 F H σ E → J F σ → P.nx E → Dn.nx σ H
  rt : ∀ v F H x, Step b F0 H0 F H → Wd K b F H → Dv K b F v x → P.rt x → Dn.rt v H
theorem OkJ.up {F0 H0 Fb Fc : Hp} {Dn : Ends} (k : OkJ K b J F0 H0 Fb P Dn) (x : Ex Fb Fc) : OkJ K b J F0 H0 Fc P Dn := ⟨fun σ F H E y => k.nx σ F H E (x.trans y), k.rt⟩
def wpsJ (K : PySem.W.Frag) (b : Bg) (J : Hp → L2.St → Prop) (t : TS) (E : Env') (P : Po) : Prop := ∀ F0 H0 F H σ, Step b F0 H0 F H → Wd K b F H → EnvD K b H0 F H σ E → J F σ → ∀ Dn : Ends, OkJ K b J F0 H0 F P Dn → t Dn σ H
def wptJ (K : PySem.W.Frag) (b : Bg) (J : Hp → L2.St → Prop) (t : TT) (E : Env') (Φ : Bool → Prop) : Prop := ∀ H0 F H σ, Wd K b F H → EnvD K b H0 F H σ E → J F σ →
  ∀ Q : Bool → Hp → Prop, (∀ c F' H', Step b F H F' H' → Wd K b F' H' → Φ c → Q c H') → t σ H Q
theorem wpsJ_next (h : P.nx E) : wpsJ K b J tNext E P := fun F0 H0 F H σ st w e j Dn k => k.nx σ F H E (Ex.refl _) st w e j h
theorem wpsJ_if (js : JS J sl) (h : wptJ K b J c E fun r => if r = true then wpsJ K b J t E P else wpsJ K b J u E P) : wpsJ K b J (tIfS c t u) E P := fun F0 H0 F H σ st w e j Dn k =>
  h H0 F H σ w e j _ fun r F1 H1 s1 w1 q => by
    cases r with
    | true => exact q F0 H0 F1 H1 σ (st.trans s1 w) w1 (e.step s1) (js.up _ _ _ s1.ex j) Dn (k.up s1.ex)
    | false => exact q F0 H0 F1 H1 σ (st.trans s1 w) w1 (e.step s1) (js.up _ _ _ s1.ex j) Dn (k.up s1.ex)
theorem wptJ_of (h : wpt K b c E Ψ) : wptJ K b J c E Ψ := fun H0 F H σ w e j Q k => h H0 F H σ w e Q k
theorem wptJ_or (js : JS J sl) (h : wptJ K b J c E fun r => if r = true then Ψ true else wptJ K b J d E Ψ) : wptJ K b J (tOr c d) E Ψ := fun H0 F H σ w e j Q k =>
  h H0 F H σ w e j _ fun r F1 H1 s1 w1 p1 => by
    cases r with
    | false => exact p1 H0 F1 H1 σ w1 (e.step s1) (js.up _ _ _ s1.ex j) Q fun c F2 H2 s2 w2 p2 => k c F2 H2 (s1.trans s2 w1) w2 p2
    | true => exact k true F1 H1 s1 w1 p1
theorem wpsJ_for {wi : TI} {i : Nat} (js : JS J sl) (hi : i ∉ sl) (h : wpi K b wi E fun ds => ∃ I : Nat → Env' → Prop, I 0 E ∧ (∀ (n : Nat) d E', ds[n]? = some d → I n E' → wpsJ K b J t (E'.set i (.d d)) { nx := I (n + 1), rt := P.rt }) ∧ ∀ E', I ds.length E' → P.nx E') :
    wpsJ K b J (tFor wi (gName i) t) E P := fun F0 H0 F H σ st w e j0 Dn k =>
  h H0 F H σ w e _ fun it0 F1 H1 ds s1 w1 it q => by
    obtain ⟨I, i0, turn, fin⟩ := q
    refine ⟨fun n m σ H => m = ds.length - n ∧ n ≤ ds.length ∧ ∃ F E, Step b F0 H0 F H ∧ Ex F1 F ∧ Wd K b F H ∧ EnvD K b H0 F H σ E ∧ J F σ ∧ I n E,
      ⟨ds.length, by omega, Nat.zero_le _, F1, E, st.trans s1 w, Ex.refl _, w1, e.step s1, js.up _ _ _ s1.ex j0, i0⟩, ?_⟩
    rintro n m σ2 H2 ⟨rfl, hn, F2, E2, s2, x2, w2, e2, i2, q2⟩
    by_cases hlt : n < ds.length
    · refine .inr ⟨it.go n F2 H2 x2 w2 hlt, fun σ' H' => ∃ F' E', Step b F0 H0 F' H' ∧ Ex F1 F' ∧ Wd K b F' H' ∧ EnvD K b H0 F' H' σ' E' ∧ J F' σ' ∧ I (n + 1) E', fun σ' H' z => ⟨ds.length - (n + 1), by omega, rfl, hlt, z⟩, fun x H3 hy => ?_⟩
      obtain ⟨F3, d, s3, w3, hd, hv⟩ := it.yld n F2 H2 x H3 x2 w2 hlt hy
      exact turn n d E2 hd q2 F0 H0 F3 H3 _ (s2.trans s3 w2) w3 ((e2.step s3).setD hv) (js.set _ _ _ _ hi (js.up _ _ _ s3.ex i2)) _ ⟨fun σ F H E y st w e j q => ⟨F, E, st, (x2.trans s3.ex).trans y, w, e, j, q⟩, k.rt⟩
    · have hn' : n = ds.length := by omega
      subst hn'
      exact .inl ⟨it.stop _ F2 H2 x2 w2 (Nat.le_refl _), k.nx σ2 F2 H2 E2 (s1.ex.trans x2) s2 w2 e2 i2 (fin E2 q2)⟩
/-- xs, ys' copies held in a tuple -/
def Tie (K : PySem.W.Frag) (h c s : Nat) (F : Hp) (σ : L2.St) : Prop := ∃ t p q a d xs ys, σ[h]? = some (some (.ref t)) ∧ σ[c]? = some (some (.ref a)) ∧ σ[s]? = some (some (.ref d)) ∧ F t = some (.tup [.ref p, .ref q]) ∧ F p = some (.lst xs) ∧ F q = some (.lst ys) ∧ F a = some (.lst xs) ∧ F d = some (.lst ys) ∧
  (∀ v ∈ xs, GL.Sm0 v) ∧ ∀ v ∈ ys, GL.Sm0 v
theorem tieJS (h c s : Nat) : JS (Tie K h c s) [h, c, s] := by
  refine ⟨fun F G σ x ⟨t, p, q, a, d, xs, ys, h1, h2, h3, h4, h5, h6, h7, h8, h9⟩ => ⟨t, p, q, a, d, xs, ys, h1, h2, h3, x _ _ h4, x _ _ h5, x _ _ h6, x _ _ h7, x _ _ h8, h9⟩, fun F σ i v hi ⟨t, p, q, a, d, xs, ys, h1, h2, h3, r⟩ => ⟨t, p, q, a, d, xs, ys, ?_, ?_, ?_, r⟩⟩
  · rw [List.getElem?_set_ne (fun z => hi (by simp [z]))]; exact h1
  · rw [List.getElem?_set_ne (fun z => hi (by simp [z]))]; exact h2
  · rw [List.getElem?_set_ne (fun z => hi (by simp [z]))]; exact h3
theorem wptJ_tie {h c s : Nat} (q : Ψ false) : wptJ K b (Tie K h c s) (tTest (tOp (GL.rNeT K) (tVar h) (tTup (tCons (tVar c) (tCons (tVar s) tNil))))) E Ψ := fun H0 F H σ w e j Q k => by
  obtain ⟨t, p, q', a, d, xs, ys, h1, h2, h3, h4, h5, h6, h7, h8, sx, sy⟩ := j
  refine ⟨_, h1, _, h2, _, h3, by show 2 ≤ sizeLine; decide, fun u hu => ?_⟩
  obtain ⟨w2, s2⟩ := w.newD (o := .tup [.ref a, .ref d]) hu
  have x2 : Ex F (upd H u (.tup [.ref a, .ref d])) := s2.ex.trans w2.ex
  refine ⟨t, u, p, q', a, d, xs, ys, rfl, rfl, .inl (.inl (x2 _ _ h4)), .inl (.inl upd_same), SqL.of (x2 _ _ h5), SqL.of (x2 _ _ h7), SqL.of (x2 _ _ h6), SqL.of (x2 _ _ h8), sx, sy, false, rfl, k false _ _ s2 w2 q⟩
def isRefD : D → Bool
  | .lst _ => true | .tup _ => true | .obj _ _ _ => true | _ => false
theorem refs_sm {F : Hp} : ∀ {vs : List V} {ds : List D}, DvA K b F vs ds → (∀ d ∈ ds, isRefD d = true) → ∀ v ∈ vs, GL.Sm0 v
  | [], _, _, _, v, hv => (List.not_mem_nil hv).elim
  | u :: vs, _, h, hr, v, hv => by
    cases h with
    | cons x y =>
      rcases List.mem_cons.mp hv with rfl | hv
      · have := hr _ List.mem_cons_self
        cases x with
        | lst s a => exact .inl ⟨_, rfl⟩
        | tup s a => exact .inl ⟨_, rfl⟩
        | obj s a => exact .inl ⟨_, rfl⟩
        | non => cases this
        | bl _ => cases this
        | int _ => cases this
        | str _ => cases this
        | bag _ => cases this
        | fn _ => cases this
      · exact refs_sm y (fun d hd => hr d (List.mem_cons_of_mem _ hd)) v hv
/-- h = (list(c), list(s)), then a statement that keeps the tie, then others -/
theorem wps_tie {h c s : Nat} {cs ss : List D} {u2 : TS} (hc : E[c]? = some (.d (.lst cs))) (hs : E[s]? = some (.d (.lst ss))) (rc : ∀ d ∈ cs, isRefD d = true) (rs : ∀ d ∈ ss, isRefD d = true) (hh : h < E.length) (hne : h ≠ c ∧ h ≠ s)
    (k : wpsJ K b (Tie K h c s) u (E.set h (.d (.tup [.lst cs, .lst ss]))) { nx := fun E' => wps K b u2 E' P, rt := P.rt }) :
    wps K b (tSeq (tAsg (tTup (tCons (tCB (rList K) (tCons (tVar c) tNil)) (tCons (tCB (rList K) (tCons (tVar s) tNil)) tNil))) (gName h)) (tSeq u u2)) E P := fun F0 H0 F H σ st w e Dn kk => by
  obtain ⟨vc, c1, c2⟩ := e.dat c _ hc
  obtain ⟨vs, s1, s2⟩ := e.dat s _ hs
  cases c2 with
  | @lst a xs _ fa da =>
  cases s2 with
  | @lst d ys _ fd dd =>
  refine ⟨_, c1, a, xs, rfl, .inl (SqL.of (w.ex _ _ fa)), fun p hp => ?_⟩
  obtain ⟨w1, st1⟩ := w.newD (o := .lst xs) hp
  refine ⟨_, s1, d, ys, rfl, .inl (SqL.of ((st1.ex.trans w1.ex) _ _ fd)), fun q hq => ?_⟩
  obtain ⟨w2, st2⟩ := w1.newD (o := .lst ys) hq
  refine ⟨by show 2 ≤ sizeLine; decide, fun t ht => ?_⟩
  obtain ⟨w3, st3⟩ := w2.newD (o := .tup [.ref p, .ref q]) ht
  have st13 := (st1.trans st2 w1).trans st3 w2
  have x13 := st13.ex
  have hpq : p ≠ q := fun z => by rw [z, upd_same] at hq; cases hq
  have hpt : p ≠ t := fun z => by rw [← z, upd_ne hpq, upd_same] at ht; cases ht
  have hqt : q ≠ t := fun z => by rw [← z, upd_same] at ht; cases ht
  have dp : Dv K b (upd (upd (upd F p (.lst xs)) q (.lst ys)) t (.tup [.ref p, .ref q])) (.ref p) (.lst cs) := .lst (by rw [upd_ne hpt, upd_ne hpq]; exact upd_same) (da.up x13)
  have dq : Dv K b (upd (upd (upd F p (.lst xs)) q (.lst ys)) t (.tup [.ref p, .ref q])) (.ref q) (.lst ss) := .lst (by rw [upd_ne hqt]; exact upd_same) (dd.up x13)
  have dt : Dv K b (upd (upd (upd F p (.lst xs)) q (.lst ys)) t (.tup [.ref p, .ref q])) (.ref t) (.tup [.lst cs, .lst ss]) := .tup (.inl (.inl upd_same)) (.cons dp (.one dq))
  have e3 := (e.step st13).setD (i := h) dt
  refine k F0 H0 _ _ _ (st.trans st13 w) w3 e3 ⟨t, p, q, a, d, xs, ys, List.getElem?_set_self (by rw [e.len]; exact hh), by rw [List.getElem?_set_ne hne.1]; exact c1, by rw [List.getElem?_set_ne hne.2]; exact s1, upd_same, by rw [upd_ne hpt, upd_ne hpq]; exact upd_same, by rw [upd_ne hqt]; exact upd_same, x13 _ _ fa, x13 _ _ fd, refs_sm da rc, refs_sm dd rs⟩ _
    ⟨fun σ F' H' E' y s' w' e' j' z => z F0 H0 F' H' σ s' w' e' Dn (kk.up (x13.trans y)), kk.rt⟩
end
end DL

namespace PK
open PySem PySem.Spec PyProof.Rows L2 DL
abbrev Pt := List Int × List Int
abbrev sp_law_heavy (K : PySem.W.Frag) (_ : Addr) : Sp := Sx K (fun a : List Int × List Int => [dI a.1, dI a.2]) (fun _ a => (1 ≤ a.1.length ∧ a.1.length ≤ 7) ∧ (∀ w ∈ a.1, 1 ≤ w) ∧ a.2.length ≤ 100 ∧ ∀ r ∈ a.2, 0 ≤ r) fun a x => x = .bl (hpk a.1 a.2)
abbrev sp_law_light (K : PySem.W.Frag) (_ : Addr) : Sp := Sx K (fun a : List Cq × List Sd2 => [.lst (a.1.map dPt), dS a.2]) (fun _ a => okLs a.1 a.2) fun a x => x = .bl (!hvy a.1 a.2)
abbrev top (i : Nat) : Stmt := PySem.Challenge.pw_packedseats_k34_light_for_several.main.body.getD i (.Pass ⟨0, 0, 0, 0⟩)
abbrev s_allowances_of : Stmt := top 2
theorem sc_allowances_of : FnScope ["council", "sides", "side"] ["council", "sides"] (defScope s_allowances_of) :=
  ⟨by rfl, by rfl, by rfl, by decide +kernel, by rfl, by decide +kernel, by decide +kernel⟩
abbrev s_can_fill : Stmt := top 3
theorem sc_can_fill : FnScope ["weights", "allowances", "family", "groups"] ["weights", "allowances"] (defScope s_can_fill) :=
  ⟨by rfl, by rfl, by rfl, by decide +kernel, by rfl, by decide +kernel, by decide +kernel⟩
abbrev s_all_seats : Stmt := top 4
theorem sc_all_seats : FnScope ["many"] ["many"] (defScope s_all_seats) :=
  ⟨by rfl, by rfl, by rfl, by decide +kernel, by rfl, by decide +kernel, by decide +kernel⟩
abbrev s_holds_all : Stmt := top 5
theorem sc_holds_all : FnScope ["family", "many"] ["family", "many"] (defScope s_holds_all) :=
  ⟨by rfl, by rfl, by rfl, by decide +kernel, by rfl, by decide +kernel, by decide +kernel⟩
abbrev s_fitting_groups : Stmt := top 6
theorem sc_fitting_groups : FnScope ["weights", "allowances", "sums", "apart", "seat", "weight", "most", "group", "total", "family"] ["weights", "allowances"] (defScope s_fitting_groups) :=
  ⟨by rfl, by rfl, by rfl, by decide +kernel, by rfl, by decide +kernel, by decide +kernel⟩
abbrev s_grown : Stmt := top 7
theorem sc_grown : FnScope ["family", "groups", "grown", "group", "apart"] ["family", "groups"] (defScope s_grown) :=
  ⟨by rfl, by rfl, by rfl, by decide +kernel, by rfl, by decide +kernel, by decide +kernel⟩
abbrev s_is_integer : Stmt := top 9
theorem sc_is_integer : FnScope ["thing"] ["thing"] (defScope s_is_integer) :=
  ⟨by rfl, by rfl, by rfl, by decide +kernel, by rfl, by decide +kernel, by decide +kernel⟩
abbrev s_is_light : Stmt := top 11
theorem sc_is_light : FnScope ["councils", "sides", "council"] ["councils", "sides"] (defScope s_is_light) :=
  ⟨by rfl, by rfl, by rfl, by decide +kernel, by rfl, by decide +kernel, by decide +kernel⟩
abbrev s_C_init : Stmt := inClass (top 20) 0
theorem sc_C_init : FnScope ["self", "weights", "quotas"] ["self", "weights", "quotas"] (defScope s_C_init) :=
  ⟨by rfl, by rfl, by rfl, by decide +kernel, by rfl, by decide +kernel, by decide +kernel⟩
abbrev s_C_repr : Stmt := inClass (top 20) 3
theorem sc_C_repr : FnScope ["self"] ["self"] (defScope s_C_repr) :=
  ⟨by rfl, by rfl, by rfl, by decide +kernel, by rfl, by decide +kernel, by decide +kernel⟩
abbrev s_C_weights : Stmt := inClass (top 20) 4
theorem sc_C_weights : FnScope ["self"] ["self"] (defScope s_C_weights) :=
  ⟨by rfl, by rfl, by rfl, by decide +kernel, by rfl, by decide +kernel, by decide +kernel⟩
abbrev s_C_total : Stmt := inClass (top 20) 6
theorem sc_C_total : FnScope ["self"] ["self"] (defScope s_C_total) :=
  ⟨by rfl, by rfl, by rfl, by decide +kernel, by rfl, by decide +kernel, by decide +kernel⟩
abbrev s_C_allowance : Stmt := inClass (top 20) 8
theorem sc_C_allowance : FnScope ["self", "side", "column", "way"] ["self", "side"] (defScope s_C_allowance) :=
  ⟨by rfl, by rfl, by rfl, by decide +kernel, by rfl, by decide +kernel, by decide +kernel⟩
abbrev s_are_weights : Stmt := top 21
theorem sc_are_weights : FnScope ["thing"] ["thing"] (defScope s_are_weights) :=
  ⟨by rfl, by rfl, by rfl, by decide +kernel, by rfl, by decide +kernel, by decide +kernel⟩
abbrev s_are_quotas : Stmt := top 22
theorem sc_are_quotas : FnScope ["thing", "total"] ["thing", "total"] (defScope s_are_quotas) :=
  ⟨by rfl, by rfl, by rfl, by decide +kernel, by rfl, by decide +kernel, by decide +kernel⟩
abbrev s_are_counts : Stmt := top 23
theorem sc_are_counts : FnScope ["thing", "fewest", "most", "greatest", "part"] ["thing", "fewest", "most", "greatest"] (defScope s_are_counts) :=
  ⟨by rfl, by rfl, by rfl, by decide +kernel, by rfl, by decide +kernel, by decide +kernel⟩
abbrev s_law_bag : Stmt := top 25
theorem sc_law_bag : FnScope ["script", "cell"] ["script"] (defScope s_law_bag) :=
  ⟨by rfl, by rfl, by rfl, by decide +kernel, by rfl, by decide +kernel, by decide +kernel⟩
abbrev s_law_take : Stmt := top 26
theorem sc_law_take : FnScope ["bag", "many", "cell", "value", "first", "second"] ["bag", "many"] (defScope s_law_take) :=
  ⟨by rfl, by rfl, by rfl, by decide +kernel, by rfl, by decide +kernel, by decide +kernel⟩
abbrev s_law_alike : Stmt := top 27
theorem sc_law_alike : FnScope ["found", "due"] ["found", "due"] (defScope s_law_alike) :=
  ⟨by rfl, by rfl, by rfl, by decide +kernel, by rfl, by decide +kernel, by decide +kernel⟩
abbrev s_law_council : Stmt := top 28
theorem sc_law_council : FnScope ["bag", "width", "most", "seats", "way", "weights", "total", "quotas", "column", "some", "k"] ["bag", "width", "most"] (defScope s_law_council) :=
  ⟨by rfl, by rfl, by rfl, by decide +kernel, by rfl, by decide +kernel, by decide +kernel⟩
abbrev s_law_made : Stmt := top 29
theorem sc_law_made : FnScope ["parts"] ["parts"] (defScope s_law_made) :=
  ⟨by rfl, by rfl, by rfl, by decide +kernel, by rfl, by decide +kernel, by decide +kernel⟩
abbrev s_law_rooms : Stmt := top 30
theorem sc_law_rooms : FnScope ["parts", "sides", "weights", "quotas", "side"] ["parts", "sides"] (defScope s_law_rooms) :=
  ⟨by rfl, by rfl, by rfl, by decide +kernel, by rfl, by decide +kernel, by decide +kernel⟩
abbrev s_law_heavy : Stmt := top 31
theorem sc_law_heavy : FnScope ["weights", "rooms", "tops", "some", "level", "spare", "weight", "spots", "later", "load", "k", "one", "j"] ["weights", "rooms"] (defScope s_law_heavy) :=
  ⟨by rfl, by rfl, by rfl, by decide +kernel, by rfl, by decide +kernel, by decide +kernel⟩
abbrev s_law_light : Stmt := top 32
theorem sc_law_light : FnScope ["councils", "sides", "parts"] ["councils", "sides"] (defScope s_law_light) :=
  ⟨by rfl, by rfl, by rfl, by decide +kernel, by rfl, by decide +kernel, by decide +kernel⟩
abbrev s_law_sides : Stmt := top 33
theorem sc_law_sides : FnScope ["bag", "width", "most", "found", "k", "side"] ["bag", "width", "most"] (defScope s_law_sides) :=
  ⟨by rfl, by rfl, by rfl, by decide +kernel, by rfl, by decide +kernel, by decide +kernel⟩
abbrev s_law : Stmt := top 34
theorem sc_law : FnScope ["script", "bag", "k", "width", "plans", "councils", "sides", "due", "handed", "again", "others", "beside", "each", "one", "parts", "council"] ["script"] (defScope s_law) :=
  ⟨by rfl, by rfl, by rfl, by decide +kernel, by rfl, by decide +kernel, by decide +kernel⟩
def t_law_light (K : PySem.W.Frag) (C : Addr) : TS :=
  (tRet (tNotV (tCB (rAny K) (tCons (tLc (iList K (tVar 0)) (gName 2) tYes (tCall (sp_law_heavy K C) [] E0 (tCons (tOp (rIx K) (tVar 2) (tC (.int 0))) (tCons (tCall (sp_law_rooms K C) [] E0 (tCons (tVar 2) (tCons (tVar 1) tNil))) tNil))) [2]) tNil))))
def t_law1 (K : PySem.W.Frag) (C : Addr) : TS :=
  (tSeq (tFor (iRng1 (tCons (tC (.int 4)) tNil)) (gName 2)
    (tSeq (tAsg (tOp (rI0 fun i j => .int (i + j)) (tC (.int 1)) (tCall (sp_law_take K C) [] E0 (tCons (tVar 1) (tCons (tC (.int 6)) tNil)))) (gName 3))
    (tSeq (tAsg (tLc (iRng1 (tCons (tCall (sp_law_take K C) [] E0 (tCons (tVar 1) (tCons (tC (.int 6)) tNil))) tNil)) (gName 13) tYes (tCall (sp_law_council K C) [] E0 (tCons (tVar 1) (tCons (tVar 3) (tCons (tC (.int 7)) tNil)))) [13]) (gName 4))
    (tSeq (tAsg (tLc (iList K (tVar 4)) (gName 14) tYes (tCall (sp_law_made K C) [] E0 (tCons (tVar 14) tNil)) [14]) (gName 5))
    (tSeq (tAsg (tCall (sp_law_sides K C) [] E0 (tCons (tVar 1) (tCons (tVar 3) (tCons (tOp (rIx K) (tLst (tCons (tC (.int 8)) (tCons (tC (.int 8)) (tCons (tC (.int 8)) (tCons (tC (.int 12)) tNil))))) (tCall (sp_law_take K C) [] E0 (tCons (tVar 1) (tCons (tC (.int 4)) tNil)))) tNil)))) (gName 6))
    (tSeq (tAsg (tCall (sp_law_light K C) [] E0 (tCons (tVar 4) (tCons (tVar 6) tNil))) (gName 7))
    (tSeq (tAsg (tTup (tCons (tCB (rList K) (tCons (tVar 5) tNil)) (tCons (tCB (rList K) (tCons (tVar 6) tNil)) tNil))) (gName 8))
    (tSeq (tFor (iRng1 (tCons (tC (.int 2)) tNil)) (gName 9)
    (tIfS (tOr (tNot (tB (tCall (sp_law_alike K C) [] E0 (tCons (tCall (sp_is_light K C) [] E0 (tCons (tOp (rIx K) (tVar 8) (tC (.int 0))) (tCons (tOp (rIx K) (tVar 8) (tC (.int 1))) tNil))) (tCons (tVar 7) tNil))))) (tTest (tOp (GL.rNeT K) (tVar 8) (tTup (tCons (tVar 5) (tCons (tVar 6) tNil))))))
    (tRet (tC (.bl false)))
    tNext))
    (tSeq (tAsg (tOp rCat (tSl (rSl K) (tVar 4) tNoPart (tPart (tC (.int 1)))) (tLc (iList K (tSl (rSl K) (tVar 4) (tPart (tC (.int 1))) tNoPart)) (gName 14) tYes (tCall (sp_law_council K C) [] E0 (tCons (tVar 1) (tCons (tVar 3) (tCons (tC (.int 7)) tNil)))) [14])) (gName 10))
    (tSeq (tAsg (tOp rCat (tSl (rSl K) (tVar 5) tNoPart (tPart (tC (.int 1)))) (tLc (iList K (tSl (rSl K) (tVar 10) (tPart (tC (.int 1))) tNoPart)) (gName 14) tYes (tCall (sp_law_made K C) [] E0 (tCons (tVar 14) tNil)) [14])) (gName 11))
    (tSeq (tIfS (tOr (tTest (tOp (rNeD K) (tCall (sp_is_light K C) [] E0 (tCons (tVar 11) (tCons (tVar 6) tNil))) (tCall (sp_law_light K C) [] E0 (tCons (tVar 10) (tCons (tVar 6) tNil))))) (tTest (tOp (rNeD K) (tCall (sp_is_light K C) [] E0 (tCons (tVar 5) (tCons (tVar 6) tNil))) (tVar 7))))
    (tRet (tC (.bl false)))
    tNext)
    (tSeq (tIfS (tTest (tOp (GL.rNeL K) (tLc (iList K (tVar 5)) (gName 13) tYes (tCB (GL.rReprI C (sp_C_repr K C) E0) (tCons (tVar 13) tNil)) [13]) (tLc (iList K (tVar 4)) (gName 14) tYes (tCB (GL.rReprI C (sp_C_repr K C) E0) (tCons (tCall (sp_law_made K C) [] E0 (tCons (tVar 14) tNil)) tNil)) [14])))
    (tRet (tC (.bl false)))
    tNext)
    (tSeq (tIfS (tOr (tTest (tOp (rNeD K) (tCall (sp_is_light K C) [] E0 (tCons (tRevL K (tVar 5)) (tCons (tRevL K (tVar 6)) tNil))) (tVar 7))) (tTest (tOp (rNeD K) (tCall (sp_is_light K C) [] E0 (tCons (tSl (rSl K) (tOp rCat (tVar 5) (tSl (rSl K) (tVar 5) tNoPart (tPart (tC (.int 1))))) tNoPart (tPart (tC (.int 5)))) (tCons (tVar 6) tNil))) (tVar 7))))
    (tRet (tC (.bl false)))
    tNext)
    (tSeq (tAsg (tLc (iList K (tVar 5)) (gName 15) tYes (tCall (sp_is_light K C) [] E0 (tCons (tLst (tCons (tVar 15) tNil)) (tCons (tVar 6) tNil))) [15]) (gName 12))
    (tSeq (tIfS (tOr (tTest (tOp (rNeD K) (tCB (rAll K) (tCons (tVar 12) tNil)) (tVar 7))) (tOr (tTest (tOp rNotB (tCall (sp_is_light K C) [] E0 (tCons (tLst tNil) (tCons (tVar 6) tNil))) (tC (.bl true)))) (tTest (tOp rNotB (tCall (sp_is_light K C) [] E0 (tCons (tVar 5) (tCons (tLst tNil) tNil))) (tC (.bl true))))))
    (tRet (tC (.bl false)))
    tNext)
    (tIfS (tTest (tOp (rNeD K) (tVar 12) (tLc (iList K (tVar 4)) (gName 14) tYes (tCall (sp_law_light K C) [] E0 (tCons (tLst (tCons (tVar 14) tNil)) (tCons (tVar 6) tNil))) [14])))
    (tRet (tC (.bl false)))
    tNext))))))))))))))))
    (tRet (tC (.bl true))))
def t_law (K : PySem.W.Frag) (C : Addr) : TS := tSeq (tAsg (tCall (sp_law_bag K C) [] E0 (tCons (tVar 0) tNil)) (gName 1)) (t_law1 K C)
end PK

namespace PK
open PySem PySem.Spec PyProof.Rows L2 DL
theorem cut_toN (ds : List D) (k : Nat) : DL.cutD ds none (some (k : Int)) = ds.take k := by
  unfold DL.cutD
  rw [HT.sIx_nat, HT.sIx_none, List.drop_zero, Nat.sub_zero]
  rcases Nat.le_total k ds.length with h | h
  · rw [Nat.min_eq_left h]
  · rw [Nat.min_eq_right h, List.take_of_length_le (Nat.le_refl _), List.take_of_length_le h]
theorem cut_fromN (ds : List D) (k : Nat) : DL.cutD ds (some (k : Int)) none = ds.drop k := by
  unfold DL.cutD
  rw [HT.sIx_nat, HT.sIx_none]
  rcases Nat.le_total k ds.length with h | h
  · rw [Nat.min_eq_left h, List.take_of_length_le (by rw [List.length_drop]; exact Nat.le_refl _)]
  · rw [Nat.min_eq_right h, List.drop_of_length_le (Nat.le_refl _), List.drop_of_length_le h, List.take_nil]
theorem cut_to1 (ds : List D) : DL.cutD ds none (some 1) = ds.take 1 := cut_toN ds 1
theorem cut_to5 (ds : List D) : DL.cutD ds none (some 5) = ds.take 5 := cut_toN ds 5
theorem cut_from1 (ds : List D) : DL.cutD ds (some 1) none = ds.drop 1 := cut_fromN ds 1
theorem hvy_rev {cs : List Cq} {ss : List Sd2} (h : okLs cs ss) : hvy cs.reverse ss.reverse = hvy cs ss := by
  unfold hvy
  rw [List.any_reverse, Bool.eq_iff_iff, List.any_eq_true, List.any_eq_true]
  have e : ∀ p ∈ cs, hpk p.1 (allows p.1 p.2 ss.reverse) = hpk p.1 (allows p.1 p.2 ss) := fun p hp => by
    obtain ⟨hq, hs⟩ := h.2.2 p hp
    refine hpk_perm (fun x hx => by have := (hq.2.2.1 x hx).1; omega) (allows_nnD hq fun s hs' => hs s (List.mem_reverse.mp hs')) (List.Perm.refl _) ?_
    unfold allows
    exact (List.reverse_perm ss).map _
  exact ⟨fun ⟨p, hp, z⟩ => ⟨p, hp, by rw [← e p hp]; exact z⟩, fun ⟨p, hp, z⟩ => ⟨p, hp, by rw [e p hp]; exact z⟩⟩
theorem hvy_five {cs : List Cq} {ss : List Sd2} (h : cs.length ≤ 5) : hvy ((cs ++ cs.take 1).take 5) ss = hvy cs ss := by
  unfold hvy
  rw [Bool.eq_iff_iff, List.any_eq_true, List.any_eq_true]
  rw [List.take_append, List.take_of_length_le h]
  constructor
  · rintro ⟨p, hp, z⟩
    refine ⟨p, ?_, z⟩
    rcases List.mem_append.mp hp with hp | hp
    · exact hp
    · exact List.mem_of_mem_take (List.mem_of_mem_take hp)
  · rintro ⟨p, hp, z⟩
    exact ⟨p, List.mem_append_left _ hp, z⟩
theorem hvy_none {cs : List Cq} {ss : List Sd2} (h : okLs cs ss) : hvy cs [] = false := by
  unfold hvy
  rw [List.any_eq_false]
  intro p hp z
  have hq := (h.2.2 p hp).1
  have hp0 : 0 < p.1.length := by have := hq.1.1; omega
  have hw0 := (hq.2.2.1 p.1[0] (List.getElem_mem hp0)).1
  have := hpk_none (ws := p.1) (as := allows p.1 p.2 []) (fun x hx => by have := (hq.2.2.1 x hx).1; omega) (List.getElem_mem hp0) (by omega) fun a ha => nomatch ha
  rw [this] at z; cases z
section
variable {K : PySem.W.Frag} {C : Addr} {b : Bg} {P : Po}
theorem w_law_light {cs : List Cq} {ss : List Sd2} (h : okLs cs ss) (k : P.rt (.bl (!hvy cs ss))) : wps K b (t_law_light K C) [.d (.lst (cs.map dPt)), .d (dS ss), .u] P := by
  unfold t_law_light
  have hl := h.1
  have hsl := h.2.1
  refine wps_ret (wpe_not (wpe_cb (wpa_cons (wpe_l (wpl_gen1 (R := fun j y => ∃ c : Bool, y = .bl c ∧ ∃ p, cs[j]? = some p ∧ c = hpk p.1 (allows p.1 p.2 ss)) (wpi_list (wpe_var (x := .lst (cs.map dPt)) (by rfl) ⟨_, rfl, by rw [List.length_map]; omega, fun j d hd => ?_, fun acc hl hR => ?_⟩)))))))
  · obtain ⟨p, hp, rfl, hm⟩ := map_mem hd
    obtain ⟨ok, oks⟩ := h.2.2 p hm
    have al : (allows p.1 p.2 ss).length = ss.length := by unfold allows; rw [List.length_map]
    refine wpe_callx (wpa_cons (wpe_op (wpe_var (x := dPt p) (by rfl) (wpe_int (rd_ixt (d := dI p.1) (by rfl) ?_)))))
    refine wpa_cons (wpe_callx (wpa_cons (wpe_var (x := dPt p) (by rfl) (wpa_cons (wpe_var (x := dS ss) (by rfl) (wpa_nil ⟨(p, ss), rfl, ⟨by show ss.length ≤ 100; omega, oks⟩, fun x hx => ?_⟩))))))
    subst hx
    exact wpa_nil ⟨(p.1, allows p.1 p.2 ss), rfl, ⟨⟨by have := ok.1.1; show 1 ≤ p.1.length; omega, ok.1.2⟩, fun w hw => (ok.2.2.1 w hw).1, by show (allows p.1 p.2 ss).length ≤ 100; omega, allows_nnD ok oks⟩, fun x hx => ⟨_, hx, p, hp, rfl⟩⟩
  · obtain ⟨bs, rfl, hbs⟩ := maps_of hR
    rw [List.length_map, List.length_map] at hl
    refine wpa_nil (rc_any ⟨_, rfl, ?_⟩)
    have e : bs.any id = hvy cs ss := by
      have : bs = cs.map fun p => hpk p.1 (allows p.1 p.2 ss) := by
        refine list_of_get (by rw [hl, List.length_map]) fun j y z => ?_
        obtain ⟨p, hp, rfl⟩ := hbs j y z
        rw [List.getElem?_map, hp]; rfl
      rw [this, List.any_map]; rfl
    rw [e]; exact k
abbrev lawE (C : Addr) (w : Nat) (ps : List Cq) (ss : List Sd2) (hv : Bool) (a2 a9 a10 a11 a12 : En) : Env' := [.u, .d .bag, a2, .d (.int (w : Nat)), .d (.lst (ps.map dPt)), .d (dCs C ps), .d (dS ss), .d (.bl (!hv)), .d (.tup [dCs C ps, dS ss]), a9, a10, a11, a12, .u, .u, .u]
theorem refs_C (C : Addr) (ps : List Cq) : ∀ d ∈ ps.map (fun p => dC C p.1 p.2), isRefD d = true := fun d hd => by
  obtain ⟨p, _, rfl⟩ := List.mem_map.mp hd
  rfl
theorem refs_S (ss : List Sd2) : ∀ d ∈ ss.map encS, isRefD d = true := fun d hd => by
  obtain ⟨p, _, rfl⟩ := List.mem_map.mp hd
  rfl
theorem bls_ok (bs : List Bool) : D.ok 9 (.lst (bs.map D.bl)) = true := by
  unfold D.ok
  refine okA_of fun d hd => ?_
  obtain ⟨c, _, rfl⟩ := List.mem_map.mp hd
  rfl
theorem w_law1 (hb : b.isSome = true) (h : P.rt (.bl true)) : wps K b (t_law1 K C) [.u, .d .bag, .u, .u, .u, .u, .u, .u, .u, .u, .u, .u, .u, .u, .u, .u] P := by
  unfold t_law1
  refine wps_seq (wps_for [2] (wpi_rng1 (wpa_cons (wpe_int (wpa_nil ⟨4, rfl, by decide, by decide, fun _ E => ∃ a2 a3 a4 a5 a6 a7 a8 a9 a10 a11 a12, E = [.u, .d .bag, a2, a3, a4, a5, a6, a7, a8, a9, a10, a11, a12, .u, .u, .u],
    ⟨_, _, _, _, _, _, _, _, _, _, _, rfl⟩, fun i d E hd hI => ?_, fun E hI => ?_⟩)))))
  · obtain ⟨a2, a3, a4, a5, a6, a7, a8, a9, a10, a11, a12, rfl⟩ := hI
    refine wpg_name (by simp) ?_
    refine wps_seq (wps_asg (wpe_op (wpe_int (wtakeC hb (by rfl) (by decide) (by decide) fun v v0 v1 => rd_I0i ?_))))
    obtain ⟨w, hw, w1, w6⟩ : ∃ w : Nat, 1 + v = (w : Int) ∧ 1 ≤ w ∧ w ≤ 6 := ⟨(1 + v).toNat, by omega, by omega, by omega⟩
    rw [hw]
    clear hw v0 v1
    -- plans
    refine wps_seq (wps_asg (wpe_l (wpl_gen1 (R := fun _ y => ∃ p : Cq, y = dPt p ∧ okQ p.1 p.2 ∧ p.2.length = w) (wpi_rng1 (wpa_cons (wtakeC hb (by rfl) (by decide) (by decide) fun n n0 n1 => wpa_nil ⟨n, rfl, by omega, by omega, by rw [rangeD_len]; omega, fun j d hd => ?_, fun acc hl hR => ?_⟩))))))
    · exact wpe_callx (wpa_cons (wpe_var (x := .bag) (by rfl) (wpa_cons (wpe_var (x := .int (w : Nat)) (by rfl) (wpa_cons (wpe_int (wpa_nil ⟨(w, 7), rfl, ⟨hb, w1, w6, (show 2 ≤ 7 by decide), Nat.le_refl 7⟩, fun x ⟨p, e, h1, h2, _⟩ => ⟨p, e, h1, h2⟩⟩)))))))
    obtain ⟨ps, rfl, hps⟩ := maps_of hR
    rw [rangeD_len, List.length_map] at hl
    have hpl : ps.length ≤ 5 := by omega
    have hpo : ∀ p ∈ ps, okQ p.1 p.2 ∧ p.2.length = w := fun p hp => by
      obtain ⟨j, hj⟩ := List.mem_iff_getElem?.mp hp
      exact hps j p hj
    clear hR hps hl
    -- councils
    refine wps_seq (wps_asg (wpe_l (wpl_gen1 (R := fun j y => ∃ p, ps[j]? = some p ∧ y = dC C p.1 p.2) (wpi_list (wpe_var (x := .lst (ps.map dPt)) (by rfl) ⟨_, rfl, by rw [List.length_map]; omega, fun j d hd => ?_, fun acc hl hR => ?_⟩)))))
    · obtain ⟨p, hp, rfl, hm⟩ := map_mem hd
      exact wpe_callx (wpa_cons (wpe_var (x := dPt p) (by rfl) (wpa_nil ⟨p, rfl, (hpo p hm).1, fun x hx => ⟨p, hp, hx⟩⟩)))
    have hacc : acc = ps.map fun p => dC C p.1 p.2 := by
      rw [List.length_map] at hl
      refine list_of_get (by rw [hl]; simp) fun i y z => ?_
      obtain ⟨p, hp, rfl⟩ := hR i y z
      rw [List.getElem?_map, hp]; rfl
    subst hacc
    clear hR hl
    -- sides
    refine wps_seq (wps_asg (wpe_callx (wpa_cons (wpe_var (x := .bag) (by rfl) (wpa_cons (wpe_var (x := .int (w : Nat)) (by rfl) (wpa_cons (wpe_op (wpe_l (wpl_lst (wpa_cons (wpe_int (wpa_cons (wpe_int (wpa_cons (wpe_int (wpa_cons (wpe_int (wpa_nil ⟨len_le rfl, wtakeC hb (by rfl) (by decide) (by decide) fun u u0 u1 => ?_⟩)))))))))))))))))))
    have hat : ∃ m : Nat, atI [D.int 8, .int 8, .int 8, .int 12] u = some (.int (m : Nat)) ∧ m ≤ 12 := by
      have : u = 0 ∨ u = 1 ∨ u = 2 ∨ u = 3 := by omega
      rcases this with rfl | rfl | rfl | rfl
      · exact ⟨8, rfl, by decide⟩
      · exact ⟨8, rfl, by decide⟩
      · exact ⟨8, rfl, by decide⟩
      · exact ⟨12, rfl, by decide⟩
    obtain ⟨m, hat, hm⟩ := hat
    refine rd_ixl hat (wpa_nil ⟨(w, m), rfl, ⟨hb, w1, w6, hm⟩, fun x hx => ?_⟩)
    obtain ⟨ss, rfl, hsl, hsn, hss⟩ := hx
    have hsl' : ss.length ≤ m := hsl
    have hss' : ∀ s ∈ ss, 0 ≤ s.1 ∧ s.1 < w := hss
    have mk : ∀ (qs : List Cq), qs.length ≤ 5 → (∀ p ∈ qs, okQ p.1 p.2 ∧ p.2.length = w) → okLs qs ss := fun qs h1 h2 => ⟨h1, by omega, fun p hp => ⟨(h2 p hp).1, fun s hs => by have := hss' s hs; have := (h2 p hp).2; omega⟩⟩
    have hok := mk ps hpl hpo
    -- due
    refine wps_seq (wps_asg (wpe_callx (wpa_cons (wpe_var (x := .lst (ps.map dPt)) (by rfl) (wpa_cons (wpe_var (x := dS ss) (by rfl) (wpa_nil ⟨(ps, ss), rfl, hok, fun x hx => ?_⟩)))))))
    have hx' : x = .bl (!hvy ps ss) := hx
    clear hx
    subst hx'
    obtain ⟨hv, hhv⟩ : ∃ c, hvy ps ss = c := ⟨_, rfl⟩
    rw [hhv]
    have lit : ∀ x, x = D.bl (!hvy ps ss) → x = .bl (!hv) := fun x hx => by rw [hx, hhv]
    -- handed
    refine wps_tie (h := 8) (c := 5) (s := 6) (cs := ps.map fun p => dC C p.1 p.2) (ss := ss.map encS) (by rfl) (by rfl) (refs_C C ps) (refs_S ss) (by show 8 < 16; decide) (by decide) ?_
    refine wpsJ_for (sl := [8, 5, 6]) (i := 9) (tieJS 8 5 6) (by decide) (wpi_rng1 (wpa_cons (wpe_int (wpa_nil ⟨2, rfl, by decide, by decide, fun _ E => ∃ a9, E = lawE C w ps ss hv (.d (.int (0 + (i : Nat)))) a9 a10 a11 a12, ⟨a9, ?_⟩, fun j d' E hd' hI => ?_, fun E hI => ?_⟩))))
    · obtain ⟨_, rfl⟩ := rangeD_at hd
      rfl
    · obtain ⟨a9', rfl⟩ := hI
      refine wpsJ_if (tieJS 8 5 6) (wptJ_or (tieJS 8 5 6) (wptJ_of (wpt_not (wpt_B (wpe_callx (wpa_cons (wpe_callx (wpa_cons (wpe_op (wpe_var (x := .tup [dCs C ps, dS ss]) (by rfl) (wpe_int (rd_ixt (d := dCs C ps) (by rfl) ?_))))))))))))
      refine wpa_cons (wpe_op (wpe_var (x := .tup [dCs C ps, dS ss]) (by rfl) (wpe_int (rd_ixt (d := dS ss) (by rfl) (wpa_nil ⟨(ps, ss), rfl, hok, fun x hx => ?_⟩)))))
      rw [lit x hx]
      refine wpa_cons (wpe_var (x := .bl (!hv)) (by rfl) (wpa_nil ⟨.bl (!hv), rfl, ⟨okB 9 _, rfl, by show 10 ≤ 10000000; decide⟩, fun y hy => ⟨true, hy, ifF (wptJ_tie (ifF (wpsJ_next ⟨.d d', rfl⟩)))⟩⟩))
    · obtain ⟨a9', rfl⟩ := hI
      -- others
      refine wps_seq (wps_asg (wpe_l (wpl_op (wpe_l (wpl_slL (wpe_var (x := .lst (ps.map dPt)) (by rfl) (wpo_none (wpo_some (wpe_int ⟨1, rfl, _, rfl, ?_⟩)))))))))
      rw [cut_to1, ← List.map_take]
      refine wpe_l (wpl_gen1 (R := fun _ y => ∃ p : Cq, y = dPt p ∧ okQ p.1 p.2 ∧ p.2.length = w) (wpi_list (wpe_l (wpl_slL (wpe_var (x := .lst (ps.map dPt)) (by rfl) (wpo_some (wpe_int ⟨1, rfl, wpo_none ⟨_, rfl, _, rfl, ?_, fun j d hd => ?_, fun acc hl hR => ?_⟩⟩)))))))
      · rw [cut_from1, List.length_drop, List.length_map]; omega
      · exact wpe_callx (wpa_cons (wpe_var (x := .bag) (by rfl) (wpa_cons (wpe_var (x := .int (w : Nat)) (by rfl) (wpa_cons (wpe_int (wpa_nil ⟨(w, 7), rfl, ⟨hb, w1, w6, (show 2 ≤ 7 by decide), Nat.le_refl 7⟩, fun x ⟨p, e, h1, h2, _⟩ => ⟨p, e, h1, h2⟩⟩)))))))
      obtain ⟨qs, rfl, hqs⟩ := maps_of hR
      rw [cut_from1, List.length_map, List.length_drop, List.length_map] at hl
      have hqo : ∀ p ∈ qs, okQ p.1 p.2 ∧ p.2.length = w := fun p hp => by
        obtain ⟨j, hj⟩ := List.mem_iff_getElem?.mp hp
        exact hqs j p hj
      clear hR hqs
      obtain ⟨os, hos⟩ : ∃ os, os = ps.take 1 ++ qs := ⟨_, rfl⟩
      have hol : os.length ≤ 5 := by rw [hos, List.length_append, List.length_take]; omega
      have hoo : ∀ p ∈ os, okQ p.1 p.2 ∧ p.2.length = w := fun p hp => by
        rw [hos] at hp
        rcases List.mem_append.mp hp with hp | hp
        · exact hpo p (List.mem_of_mem_take hp)
        · exact hqo p hp
      have hod : os.drop 1 = qs := by
        rw [hos]
        cases ps with
        | nil =>
          cases qs with
          | nil => rfl
          | cons q qs => simp at hl
        | cons p ps => rfl
      have hook := mk os hol hoo
      refine rd_cat (by rw [List.length_map, List.length_map, List.length_take]; omega) ?_
      rw [← List.map_append, ← hos]
      -- beside
      refine wps_seq (wps_asg (wpe_l (wpl_op (wpe_l (wpl_slL (wpe_var (x := dCs C ps) (by rfl) (wpo_none (wpo_some (wpe_int ⟨1, rfl, _, rfl, ?_⟩)))))))))
      rw [cut_to1, ← List.map_take]
      refine wpe_l (wpl_gen1 (R := fun j y => ∃ p, qs[j]? = some p ∧ y = dC C p.1 p.2) (wpi_list (wpe_l (wpl_slL (wpe_var (x := .lst (os.map dPt)) (by rfl) (wpo_some (wpe_int ⟨1, rfl, wpo_none ⟨_, rfl, ?_⟩⟩)))))))
      rw [cut_from1, ← List.map_drop, hod]
      refine ⟨_, rfl, by rw [List.length_map]; omega, fun j d hd => ?_, fun acc hl2 hR => ?_⟩
      · obtain ⟨p, hp, rfl, hm⟩ := map_mem hd
        exact wpe_callx (wpa_cons (wpe_var (x := dPt p) (by rfl) (wpa_nil ⟨p, rfl, (hqo p hm).1, fun x hx => ⟨p, hp, hx⟩⟩)))
      have hacc : acc = qs.map fun p => dC C p.1 p.2 := by
        rw [List.length_map] at hl2
        refine list_of_get (by rw [hl2]; simp) fun i y z => ?_
        obtain ⟨p, hp, rfl⟩ := hR i y z
        rw [List.getElem?_map, hp]; rfl
      subst hacc
      clear hR hl2
      refine rd_cat (by rw [List.length_map, List.length_map, List.length_take]; omega) ?_
      rw [← List.map_append, ← hos]
      -- light for these too
      refine wps_seq (wps_if (wpt_or (wpt_test (wpe_op (wpe_callx (wpa_cons (wpe_var (x := dCs C os) (by rfl) (wpa_cons (wpe_var (x := dS ss) (by rfl) (wpa_nil ⟨(os, ss), rfl, hook, fun x hx => ?_⟩))))))))))
      have hx1 : x = .bl (!hvy os ss) := hx
      rw [hx1]
      refine wpe_callx (wpa_cons (wpe_var (x := .lst (os.map dPt)) (by rfl) (wpa_cons (wpe_var (x := dS ss) (by rfl) (wpa_nil ⟨(os, ss), rfl, hook, fun y hy => ?_⟩)))))
      have hy1 : y = .bl (!hvy os ss) := hy
      rw [hy1]
      refine rd_neD 9 (by decide) (okB 9 _) (okB 9 _) ⟨_, rfl, ?_⟩
      rw [eq_self 9 (okB 9 _)]
      clear hx hy hx1 hy1
      refine ifF (wpt_test (wpe_op (wpe_callx (wpa_cons (wpe_var (x := dCs C ps) (by rfl) (wpa_cons (wpe_var (x := dS ss) (by rfl) (wpa_nil ⟨(ps, ss), rfl, hok, fun x hx => ?_⟩))))))))
      rw [lit x hx]
      refine wpe_var (x := .bl (!hv)) (by rfl) (rd_neD 9 (by decide) (okB 9 _) (okB 9 _) ⟨_, rfl, ?_⟩)
      rw [eq_self 9 (okB 9 _)]
      refine ifF (wps_next ?_)
      -- their texts
      refine wps_seq (wps_if (wpt_test (wpe_op (wpe_l (wpl_gen1 (R := fun j y => ∃ p, ps[j]? = some p ∧ y = .str (cText p.1 p.2)) (wpi_list (wpe_var (x := dCs C ps) (by rfl) ⟨_, rfl, by rw [List.length_map]; omega, fun j d hd => ?_, fun acc hl3 hR => ?_⟩)))))))
      · obtain ⟨p, hp, rfl, hm⟩ := map_mem hd
        exact wpe_cb (wpa_cons (wpe_var (x := dC C p.1 p.2) (by rfl) (wpa_nil (rc_reprI ⟨p, rfl, (hpo p hm).1, fun z hz => ⟨_, hz, p, hp, rfl⟩⟩))))
      have hacc : acc = (ps.map fun p => cText p.1 p.2).map D.str := by
        rw [List.length_map] at hl3
        refine list_of_get (by rw [hl3]; simp) fun i y z => ?_
        obtain ⟨p, hp, rfl⟩ := hR i y z
        rw [List.getElem?_map, List.getElem?_map, hp]; rfl
      subst hacc
      clear hR hl3
      refine wpe_l (wpl_gen1 (R := fun j y => ∃ p, ps[j]? = some p ∧ y = .str (cText p.1 p.2)) (wpi_list (wpe_var (x := .lst (ps.map dPt)) (by rfl) ⟨_, rfl, by rw [List.length_map]; omega, fun j d hd => ?_, fun acc hl3 hR => ?_⟩)))
      · obtain ⟨p, hp, rfl, hm⟩ := map_mem hd
        refine wpe_cb (wpa_cons (wpe_callx (wpa_cons (wpe_var (x := dPt p) (by rfl) (wpa_nil ⟨p, rfl, (hpo p hm).1, fun x hx => ?_⟩)))))
        subst hx
        exact wpa_nil (rc_reprI ⟨p, rfl, (hpo p hm).1, fun z hz => ⟨_, hz, p, hp, rfl⟩⟩)
      have hacc : acc = (ps.map fun p => cText p.1 p.2).map D.str := by
        rw [List.length_map] at hl3
        refine list_of_get (by rw [hl3]; simp) fun i y z => ?_
        obtain ⟨p, hp, rfl⟩ := hR i y z
        rw [List.getElem?_map, List.getElem?_map, hp]; rfl
      subst hacc
      clear hR hl3
      refine rd_neL ⟨false, rfl, ifF (wps_next ?_)⟩
      -- in another order
      refine wps_seq (wps_if (wpt_or (wpt_test (wpe_op (wpe_callx (wpa_cons (wpe_l (wpl_rev (wpe_var (x := dCs C ps) (by rfl) ⟨_, rfl, ?_⟩)))))))))
      rw [← List.map_reverse]
      refine wpa_cons (wpe_l (wpl_rev (wpe_var (x := dS ss) (by rfl) ⟨_, rfl, ?_⟩)))
      rw [← List.map_reverse]
      refine wpa_nil ⟨(ps.reverse, ss.reverse), rfl, ⟨by show ps.reverse.length ≤ 5; rw [List.length_reverse]; exact hpl, by show ss.reverse.length ≤ 12; rw [List.length_reverse]; omega, fun p hp => ⟨(hpo p (List.mem_reverse.mp hp)).1, fun s hs => by have := hss' s (List.mem_reverse.mp hs); have := (hpo p (List.mem_reverse.mp hp)).2; omega⟩⟩, fun x hx => ?_⟩
      have hx1 : x = .bl (!hvy ps ss) := by rw [hx]; show D.bl (!hvy ps.reverse ss.reverse) = _; rw [hvy_rev hok]
      rw [lit x hx1]
      refine wpe_var (x := .bl (!hv)) (by rfl) (rd_neD 9 (by decide) (okB 9 _) (okB 9 _) ⟨_, rfl, ?_⟩)
      rw [eq_self 9 (okB 9 _)]
      clear hx hx1
      refine ifF (wpt_test (wpe_op (wpe_callx (wpa_cons (wpe_l (wpl_slL (wpe_l (wpl_op (wpe_var (x := dCs C ps) (by rfl) (wpe_l (wpl_slL (wpe_var (x := dCs C ps) (by rfl) (wpo_none (wpo_some (wpe_int ⟨1, rfl, _, rfl, ?_⟩)))))))))))))))
      rw [cut_to1, ← List.map_take]
      refine rd_cat (by rw [List.length_map, List.length_map, List.length_take]; omega) (wpo_none (wpo_some (wpe_int ⟨5, rfl, _, rfl, ?_⟩)))
      rw [cut_to5, ← List.map_append, ← List.map_take]
      refine wpa_cons (wpe_var (x := dS ss) (by rfl) (wpa_nil ⟨((ps ++ ps.take 1).take 5, ss), rfl, mk _ (by rw [List.length_take]; omega) (fun p hp => ?_), fun x hx => ?_⟩))
      · rcases List.mem_append.mp (List.mem_of_mem_take hp) with hp | hp
        · exact hpo p hp
        · exact hpo p (List.mem_of_mem_take hp)
      have hx1 : x = .bl (!hvy ps ss) := by rw [hx]; show D.bl (!hvy ((ps ++ ps.take 1).take 5) ss) = _; rw [hvy_five hpl]
      rw [lit x hx1]
      refine wpe_var (x := .bl (!hv)) (by rfl) (rd_neD 9 (by decide) (okB 9 _) (okB 9 _) ⟨_, rfl, ?_⟩)
      rw [eq_self 9 (okB 9 _)]
      clear hx hx1
      refine ifF (wps_next ?_)
      -- one by one
      refine wps_seq (wps_asg (wpe_l (wpl_gen1 (R := fun j y => ∃ p, ps[j]? = some p ∧ y = .bl (!hvy [p] ss)) (wpi_list (wpe_var (x := dCs C ps) (by rfl) ⟨_, rfl, by rw [List.length_map]; omega, fun j d hd => ?_, fun acc hl3 hR => ?_⟩)))))
      · obtain ⟨p, hp, rfl, hm⟩ := map_mem hd
        refine wpe_callx (wpa_cons (wpe_l (wpl_lst (wpa_cons (wpe_var (x := dC C p.1 p.2) (by rfl) (wpa_nil ⟨len_le rfl, ?_⟩))))))
        exact wpa_cons (wpe_var (x := dS ss) (by rfl) (wpa_nil ⟨([p], ss), rfl, mk [p] (by show 1 ≤ 5; decide) (fun q hq => by rw [List.mem_singleton.mp hq]; exact hpo p hm), fun x hx => ⟨p, hp, hx⟩⟩))
      have hacc : acc = (ps.map fun p => !hvy [p] ss).map D.bl := by
        rw [List.length_map] at hl3
        refine list_of_get (by rw [hl3]; simp) fun i y z => ?_
        obtain ⟨p, hp, rfl⟩ := hR i y z
        rw [List.getElem?_map, List.getElem?_map, hp]; rfl
      subst hacc
      clear hR hl3
      have hall : (ps.map fun p => !hvy [p] ss).all id = !hv := by
        rw [← hhv, List.all_map, Bool.eq_iff_iff, List.all_eq_true]
        unfold hvy
        constructor
        · intro z
          have : (ps.any fun p => hpk p.1 (allows p.1 p.2 ss)) = false := by
            rw [List.any_eq_false]
            intro p hp y
            have := z p hp
            simp only [Function.comp, id_eq, List.any_cons, List.any_nil, Bool.or_false] at this
            rw [y] at this; cases this
          rw [this]; rfl
        · intro z p hp
          have z' : (ps.any fun p => hpk p.1 (allows p.1 p.2 ss)) = false := by simpa using z
          rw [List.any_eq_false] at z'
          have := z' p hp
          simp only [Function.comp, id_eq, List.any_cons, List.any_nil, Bool.or_false]
          simpa using this
      refine wps_seq (wps_if (wpt_or (wpt_test (wpe_op (wpe_cb (wpa_cons (wpe_var (x := .lst ((ps.map fun p => !hvy [p] ss).map D.bl)) (by rfl) (wpa_nil (rc_all ?_)))))))))
      rw [hall]
      refine wpe_var (x := .bl (!hv)) (by rfl) (rd_neD 9 (by decide) (okB 9 _) (okB 9 _) ⟨_, rfl, ?_⟩)
      rw [eq_self 9 (okB 9 _)]
      refine ifF (wpt_or (wpt_test (wpe_op (wpe_callx (wpa_cons (wpe_l (wpl_lst (wpa_nil ⟨len_le rfl, ?_⟩))))))))
      refine wpa_cons (wpe_var (x := dS ss) (by rfl) (wpa_nil ⟨([], ss), rfl, mk [] (by show 0 ≤ 5; decide) (fun p hp => nomatch hp), fun x hx => ?_⟩))
      have hx1 : x = .bl true := hx
      rw [hx1]
      refine wpe_bl (rd_notB ⟨_, rfl, ifF ?_⟩)
      clear hx hx1
      refine wpt_test (wpe_op (wpe_callx (wpa_cons (wpe_var (x := dCs C ps) (by rfl) (wpa_cons (wpe_l (wpl_lst (wpa_nil ⟨len_le rfl, wpa_nil ⟨(ps, []), rfl, ⟨hpl, by show 0 ≤ 12; decide, fun p hp => ⟨(hpo p hp).1, fun s hs => nomatch hs⟩⟩, fun x hx => ?_⟩⟩))))))))
      have hx1 : x = .bl true := by rw [hx]; show D.bl (!hvy ps []) = _; rw [hvy_none hok]; rfl
      rw [hx1]
      refine wpe_bl (rd_notB ⟨_, rfl, ifF (wps_next ?_)⟩)
      clear hx hx1
      refine wps_if (wpt_test (wpe_op (wpe_var (x := .lst ((ps.map fun p => !hvy [p] ss).map D.bl)) (by rfl) (wpe_l (wpl_gen1 (R := fun j y => ∃ p, ps[j]? = some p ∧ y = .bl (!hvy [p] ss)) (wpi_list (wpe_var (x := .lst (ps.map dPt)) (by rfl) ⟨_, rfl, by rw [List.length_map]; omega, fun j d hd => ?_, fun acc hl3 hR => ?_⟩)))))))
      · obtain ⟨p, hp, rfl, hm⟩ := map_mem hd
        refine wpe_callx (wpa_cons (wpe_l (wpl_lst (wpa_cons (wpe_var (x := dPt p) (by rfl) (wpa_nil ⟨len_le rfl, ?_⟩))))))
        exact wpa_cons (wpe_var (x := dS ss) (by rfl) (wpa_nil ⟨([p], ss), rfl, mk [p] (by show 1 ≤ 5; decide) (fun q hq => by rw [List.mem_singleton.mp hq]; exact hpo p hm), fun x hx => ⟨p, hp, hx⟩⟩))
      have hacc : acc = (ps.map fun p => !hvy [p] ss).map D.bl := by
        rw [List.length_map] at hl3
        refine list_of_get (by rw [hl3]; simp) fun i y z => ?_
        obtain ⟨p, hp, rfl⟩ := hR i y z
        rw [List.getElem?_map, List.getElem?_map, hp]; rfl
      subst hacc
      refine rd_neD 9 (by decide) (bls_ok _) (bls_ok _) ⟨_, rfl, ?_⟩
      rw [eq_self 9 (bls_ok _)]
      exact ifF (wps_next ⟨_, _, _, _, _, _, _, _, _, _, _, rfl⟩)
  · obtain ⟨a2, a3, a4, a5, a6, a7, a8, a9, a10, a11, a12, rfl⟩ := hI
    exact wps_ret (wpe_bl h)
end
section
variable {K : PySem.W.Frag} {C : Addr} {vs : List V} {H : Hp} {Q : VK} {EE : XK}
theorem ln_law_heavy (h : sp_law_heavy K C vs H Q EE) : vs.length = 2 := ln_x h fun _ => rfl
theorem r_law_heavy (cf : CF K C) (h : sp_law_heavy K C vs H Q EE) : t_law_heavy K C (De Q) (L2.start ["weights", "rooms", "tops", "some", "level", "spare", "weight", "spots", "later", "load", "k", "one", "j"] vs) H := r_x2 (N := ["weights", "rooms", "tops", "some", "level", "spare", "weight", "spots", "later", "load", "k", "one", "j"]) h (fun b a hp => w_law_heavy hp.1 hp.2.1 hp.2.2.1 hp.2.2.2 rfl)
theorem ln_law_light (h : sp_law_light K C vs H Q EE) : vs.length = 2 := ln_x h fun _ => rfl
theorem r_law_light (cf : CF K C) (h : sp_law_light K C vs H Q EE) : t_law_light K C (De Q) (L2.start ["councils", "sides", "parts"] vs) H := r_x2 (N := ["councils", "sides", "parts"]) h (fun b a hp => w_law_light hp rfl)
theorem r_law (cf : CF K C) (h : sp_law K C vs H Q EE) : t_law K C { nx := fun _ H' => Q .non H', rt := Q } (L2.start ["script", "bag", "k", "width", "plans", "councils", "sides", "due", "handed", "again", "others", "beside", "each", "one", "parts", "council"] vs) H :=
  law_run (t := t_law1 K C) h (by decide) fun p c => w_law1 rfl rfl
end

end PK

namespace PK
open PySem PySem.Spec PyProof.Rows L2 DL
structure Txt (K : PySem.W.Frag) (mg : Str → Option Value) where
  C : Addr
  f_allowances_of : Addr
  d_allowances_of : FuncData
  F_allowances_of : Fun K "allowances_of" "allowances_of" s_allowances_of f_allowances_of d_allowances_of
  g_allowances_of : mg "allowances_of" = some (.ref f_allowances_of)
  f_can_fill : Addr
  d_can_fill : FuncData
  F_can_fill : Fun K "can_fill" "can_fill" s_can_fill f_can_fill d_can_fill
  g_can_fill : mg "can_fill" = some (.ref f_can_fill)
  f_all_seats : Addr
  d_all_seats : FuncData
  F_all_seats : Fun K "_all_seats" "_all_seats" s_all_seats f_all_seats d_all_seats
  g_all_seats : mg "_all_seats" = some (.ref f_all_seats)
  f_holds_all : Addr
  d_holds_all : FuncData
  F_holds_all : Fun K "_holds_all" "_holds_all" s_holds_all f_holds_all d_holds_all
  g_holds_all : mg "_holds_all" = some (.ref f_holds_all)
  f_fitting_groups : Addr
  d_fitting_groups : FuncData
  F_fitting_groups : Fun K "_fitting_groups" "_fitting_groups" s_fitting_groups f_fitting_groups d_fitting_groups
  g_fitting_groups : mg "_fitting_groups" = some (.ref f_fitting_groups)
  f_grown : Addr
  d_grown : FuncData
  F_grown : Fun K "_grown" "_grown" s_grown f_grown d_grown
  g_grown : mg "_grown" = some (.ref f_grown)
  f_is_integer : Addr
  d_is_integer : FuncData
  F_is_integer : Fun K "is_integer" "is_integer" s_is_integer f_is_integer d_is_integer
  g_is_integer : mg "is_integer" = some (.ref f_is_integer)
  f_is_light : Addr
  d_is_light : FuncData
  F_is_light : Fun K "is_light" "is_light" s_is_light f_is_light d_is_light
  g_is_light : mg "is_light" = some (.ref f_is_light)
  f_C_init : Addr
  d_C_init : FuncData
  F_C_init : Fun K "__init__" "Council.__init__" s_C_init f_C_init d_C_init
  MK : Mk K C f_C_init
  f_C_repr : Addr
  d_C_repr : FuncData
  F_C_repr : Fun K "__repr__" "Council.__repr__" s_C_repr f_C_repr d_C_repr
  M_C_repr : Meth K C "__repr__" f_C_repr
  f_C_weights : Addr
  d_C_weights : FuncData
  F_C_weights : Fun K "weights" "Council.weights" s_C_weights f_C_weights d_C_weights
  M_C_weights : Meth K C "weights" f_C_weights
  f_C_total : Addr
  d_C_total : FuncData
  F_C_total : Fun K "total" "Council.total" s_C_total f_C_total d_C_total
  M_C_total : Meth K C "total" f_C_total
  f_C_allowance : Addr
  d_C_allowance : FuncData
  F_C_allowance : Fun K "allowance" "Council.allowance" s_C_allowance f_C_allowance d_C_allowance
  M_C_allowance : Meth K C "allowance" f_C_allowance
  f_are_weights : Addr
  d_are_weights : FuncData
  F_are_weights : Fun K "_are_weights" "_are_weights" s_are_weights f_are_weights d_are_weights
  g_are_weights : mg "_are_weights" = some (.ref f_are_weights)
  f_are_quotas : Addr
  d_are_quotas : FuncData
  F_are_quotas : Fun K "_are_quotas" "_are_quotas" s_are_quotas f_are_quotas d_are_quotas
  g_are_quotas : mg "_are_quotas" = some (.ref f_are_quotas)
  f_are_counts : Addr
  d_are_counts : FuncData
  F_are_counts : Fun K "_are_counts" "_are_counts" s_are_counts f_are_counts d_are_counts
  g_are_counts : mg "_are_counts" = some (.ref f_are_counts)
  f_law_bag : Addr
  d_law_bag : FuncData
  F_law_bag : Fun K "_law_bag" "_law_bag" s_law_bag f_law_bag d_law_bag
  g_law_bag : mg "_law_bag" = some (.ref f_law_bag)
  f_law_take : Addr
  d_law_take : FuncData
  F_law_take : Fun K "_law_take" "_law_take" s_law_take f_law_take d_law_take
  g_law_take : mg "_law_take" = some (.ref f_law_take)
  f_law_alike : Addr
  d_law_alike : FuncData
  F_law_alike : Fun K "_law_alike" "_law_alike" s_law_alike f_law_alike d_law_alike
  g_law_alike : mg "_law_alike" = some (.ref f_law_alike)
  f_law_council : Addr
  d_law_council : FuncData
  F_law_council : Fun K "_law_council" "_law_council" s_law_council f_law_council d_law_council
  g_law_council : mg "_law_council" = some (.ref f_law_council)
  f_law_made : Addr
  d_law_made : FuncData
  F_law_made : Fun K "_law_made" "_law_made" s_law_made f_law_made d_law_made
  g_law_made : mg "_law_made" = some (.ref f_law_made)
  f_law_rooms : Addr
  d_law_rooms : FuncData
  F_law_rooms : Fun K "_law_rooms" "_law_rooms" s_law_rooms f_law_rooms d_law_rooms
  g_law_rooms : mg "_law_rooms" = some (.ref f_law_rooms)
  f_law_heavy : Addr
  d_law_heavy : FuncData
  F_law_heavy : Fun K "_law_heavy" "_law_heavy" s_law_heavy f_law_heavy d_law_heavy
  g_law_heavy : mg "_law_heavy" = some (.ref f_law_heavy)
  f_law_light : Addr
  d_law_light : FuncData
  F_law_light : Fun K "_law_light" "_law_light" s_law_light f_law_light d_law_light
  g_law_light : mg "_law_light" = some (.ref f_law_light)
  f_law_sides : Addr
  d_law_sides : FuncData
  F_law_sides : Fun K "_law_sides" "_law_sides" s_law_sides f_law_sides d_law_sides
  g_law_sides : mg "_law_sides" = some (.ref f_law_sides)
  f_law : Addr
  d_law : FuncData
  F_law : Fun K "law" "law" s_law f_law d_law
  g_law : mg "law" = some (.ref f_law)
  m_abs : mg "abs" = none
  m_all : mg "all" = none
  m_any : mg "any" = none
  m_bool : mg "bool" = none
  m_enumerate : mg "enumerate" = none
  m_int : mg "int" = none
  m_isinstance : mg "isinstance" = none
  m_len : mg "len" = none
  m_list : mg "list" = none
  m_max : mg "max" = none
  m_range : mg "range" = none
  m_repr : mg "repr" = none
  m_sorted : mg "sorted" = none
  m_sum : mg "sum" = none
  m_tuple : mg "tuple" = none
  c_FEWEST_SEATS : ∃ t, mg "FEWEST_SEATS" = some (.int 2 t)
  c_GREATEST_WEIGHT : ∃ t, mg "GREATEST_WEIGHT" = some (.int 1000000 t)
  c_MOST_COLUMNS : ∃ t, mg "MOST_COLUMNS" = some (.int 6 t)
  c_MOST_SEATS : ∃ t, mg "MOST_SEATS" = some (.int 7 t)
  cf : CF K C
  mgC : mg "Council" = some (.ref C)
section
variable {P : Program} {w : World} {K : PySem.W.Frag} {mg : Str → Option Value} {base : Heap}
theorem bd_allowances_of (T : Txt K mg) : L2.Binds K T.d_allowances_of ["council", "sides"] [] :=
  T.F_allowances_of.binds fun _ _ _ _ _ _ us hl => match us, hl with | [_, _], _ => rfl
theorem bd_can_fill (T : Txt K mg) : L2.Binds K T.d_can_fill ["weights", "allowances"] [] :=
  T.F_can_fill.binds fun _ _ _ _ _ _ us hl => match us, hl with | [_, _], _ => rfl
theorem bd_all_seats (T : Txt K mg) : L2.Binds K T.d_all_seats ["many"] [] :=
  T.F_all_seats.binds fun _ _ _ _ _ _ us hl => match us, hl with | [_], _ => rfl
theorem bd_holds_all (T : Txt K mg) : L2.Binds K T.d_holds_all ["family", "many"] [] :=
  T.F_holds_all.binds fun _ _ _ _ _ _ us hl => match us, hl with | [_, _], _ => rfl
theorem bd_fitting_groups (T : Txt K mg) : L2.Binds K T.d_fitting_groups ["weights", "allowances"] [] :=
  T.F_fitting_groups.binds fun _ _ _ _ _ _ us hl => match us, hl with | [_, _], _ => rfl
theorem bd_grown (T : Txt K mg) : L2.Binds K T.d_grown ["family", "groups"] [] :=
  T.F_grown.binds fun _ _ _ _ _ _ us hl => match us, hl with | [_, _], _ => rfl
theorem bd_is_integer (T : Txt K mg) : L2.Binds K T.d_is_integer ["thing"] [] :=
  T.F_is_integer.binds fun _ _ _ _ _ _ us hl => match us, hl with | [_], _ => rfl
theorem bd_is_light (T : Txt K mg) : L2.Binds K T.d_is_light ["councils", "sides"] [] :=
  T.F_is_light.binds fun _ _ _ _ _ _ us hl => match us, hl with | [_, _], _ => rfl
theorem bd_C_init (T : Txt K mg) : L2.Binds K T.d_C_init ["self", "weights", "quotas"] [] :=
  T.F_C_init.binds fun _ _ _ _ _ _ us hl => match us, hl with | [_, _, _], _ => rfl
theorem bd_C_repr (T : Txt K mg) : L2.Binds K T.d_C_repr ["self"] [] :=
  T.F_C_repr.binds fun _ _ _ _ _ _ us hl => match us, hl with | [_], _ => rfl
theorem bd_C_weights (T : Txt K mg) : L2.Binds K T.d_C_weights ["self"] [] :=
  T.F_C_weights.binds fun _ _ _ _ _ _ us hl => match us, hl with | [_], _ => rfl
theorem bd_C_total (T : Txt K mg) : L2.Binds K T.d_C_total ["self"] [] :=
  T.F_C_total.binds fun _ _ _ _ _ _ us hl => match us, hl with | [_], _ => rfl
theorem bd_C_allowance (T : Txt K mg) : L2.Binds K T.d_C_allowance ["self", "side"] [] :=
  T.F_C_allowance.binds fun _ _ _ _ _ _ us hl => match us, hl with | [_, _], _ => rfl
theorem bd_are_weights (T : Txt K mg) : L2.Binds K T.d_are_weights ["thing"] [] :=
  T.F_are_weights.binds fun _ _ _ _ _ _ us hl => match us, hl with | [_], _ => rfl
theorem bd_are_quotas (T : Txt K mg) : L2.Binds K T.d_are_quotas ["thing", "total"] [] :=
  T.F_are_quotas.binds fun _ _ _ _ _ _ us hl => match us, hl with | [_, _], _ => rfl
theorem bd_are_counts (T : Txt K mg) : L2.Binds K T.d_are_counts ["thing", "fewest", "most", "greatest"] [] :=
  T.F_are_counts.binds fun _ _ _ _ _ _ us hl => match us, hl with | [_, _, _, _], _ => rfl
theorem bd_law_bag (T : Txt K mg) : L2.Binds K T.d_law_bag ["script"] [] :=
  T.F_law_bag.binds fun _ _ _ _ _ _ us hl => match us, hl with | [_], _ => rfl
theorem bd_law_take (T : Txt K mg) : L2.Binds K T.d_law_take ["bag", "many"] [] :=
  T.F_law_take.binds fun _ _ _ _ _ _ us hl => match us, hl with | [_, _], _ => rfl
theorem bd_law_alike (T : Txt K mg) : L2.Binds K T.d_law_alike ["found", "due"] [] :=
  T.F_law_alike.binds fun _ _ _ _ _ _ us hl => match us, hl with | [_, _], _ => rfl
theorem bd_law_council (T : Txt K mg) : L2.Binds K T.d_law_council ["bag", "width", "most"] [] :=
  T.F_law_council.binds fun _ _ _ _ _ _ us hl => match us, hl with | [_, _, _], _ => rfl
theorem bd_law_made (T : Txt K mg) : L2.Binds K T.d_law_made ["parts"] [] :=
  T.F_law_made.binds fun _ _ _ _ _ _ us hl => match us, hl with | [_], _ => rfl
theorem bd_law_rooms (T : Txt K mg) : L2.Binds K T.d_law_rooms ["parts", "sides"] [] :=
  T.F_law_rooms.binds fun _ _ _ _ _ _ us hl => match us, hl with | [_, _], _ => rfl
theorem bd_law_heavy (T : Txt K mg) : L2.Binds K T.d_law_heavy ["weights", "rooms"] [] :=
  T.F_law_heavy.binds fun _ _ _ _ _ _ us hl => match us, hl with | [_, _], _ => rfl
theorem bd_law_light (T : Txt K mg) : L2.Binds K T.d_law_light ["councils", "sides"] [] :=
  T.F_law_light.binds fun _ _ _ _ _ _ us hl => match us, hl with | [_, _], _ => rfl
theorem bd_law_sides (T : Txt K mg) : L2.Binds K T.d_law_sides ["bag", "width", "most"] [] :=
  T.F_law_sides.binds fun _ _ _ _ _ _ us hl => match us, hl with | [_, _, _], _ => rfl
theorem bd_law (T : Txt K mg) : L2.Binds K T.d_law ["script"] [] :=
  T.F_law.binds fun _ _ _ _ _ _ us hl => match us, hl with | [_], _ => rfl
theorem ok_all_seats (T : Txt K mg) : GL.FnG P w K mg base 1 T.f_all_seats T.d_all_seats ["many"] (sp_all_seats K T.C) := by
  refine GL.okG (k := 0) T.F_all_seats sc_all_seats (fun vs H Q E h => ln_all_seats h) (fun cdv A outer s H vs Q E hg hr h => ?_)
  exact ⟨t_all_seats K T.C, (pss_one (ps_ret (pe_op op_sub (pe_op GL.op_oneShlR pe_int (pv 0)) pe_int))), r_all_seats T.cf h⟩
theorem ok_fitting_groups (T : Txt K mg) : GL.FnG P w K mg base 1 T.f_fitting_groups T.d_fitting_groups ["weights", "allowances"] (sp_fitting_groups K T.C) := by
  refine GL.okG (k := 0) T.F_fitting_groups sc_fitting_groups (fun vs H Q E h => ln_fitting_groups h) (fun cdv A outer s H vs Q E hg hr h => ?_)
  exact ⟨t_fitting_groups K T.C, (pss_cons (ps_set (i := 2) sc_fitting_groups.nd (by rfl) (by first | exact .inl rfl | exact .inr rfl) (pe_lst (pa_cons pe_int pa_nil)))
    (pss_cons (ps_set (i := 3) sc_fitting_groups.nd (by rfl) (by first | exact .inl rfl | exact .inr rfl) (pe_lst (pa_cons pe_int pa_nil)))
    (pss_cons (ps_for PassesOwn.never (by rfl) (pi_enum (by rfl) T.m_enumerate (pa_cons (pv 0) pa_nil)) (pg_tup (by rfl) (pgs_cons (pg_name (i := 4) sc_fitting_groups.nd (by rfl) (by first | exact .inl rfl | exact .inr rfl)) (pgs_cons (pg_name (i := 5) sc_fitting_groups.nd (by rfl) (by first | exact .inl rfl | exact .inr rfl)) pgs_nil)))
    (pss_cons (ps_set (i := 2) sc_fitting_groups.nd (by rfl) (by first | exact .inl rfl | exact .inr rfl) (pe_op op_cat (pv 2) (pe_lc (own := [("total", 8)]) (wi := (iList K (tVar 2))) (g := (gName 8)) (tt := tYes) (te := (tOp (rI0 fun i j => .int (i + j)) (tVar 8) (tVar 5))) (by rfl) sc_fitting_groups.nd (pi_list (pv 2)) (blkOk_by (own := [("total", 8)]) (N := ["weights", "allowances", "sums", "apart", "seat", "weight", "most", "group", "total", "family"]) (sc := defScope s_fitting_groups) (by decide +kernel)) (fun _ _ _ _ _ => (pg_name (i := 8) sc_fitting_groups.nd (by rfl) (by first | exact .inl rfl | exact .inr rfl))) (fun _ _ _ _ _ => pts_nil) (fun _ _ _ _ _ => (pe_op op_add (pv 8) (pv 5))))))
    (pss_one (ps_set (i := 3) sc_fitting_groups.nd (by rfl) (by first | exact .inl rfl | exact .inr rfl) (pe_op op_cat (pe_lc (own := [("family", 9)]) (wi := (iList K (tVar 3))) (g := (gName 9)) (tt := tYes) (te := (tOp GL.rOrN (tVar 9) (tOp GL.rShlN (tVar 9) (tOp GL.rOneShl (tC (.int 1)) (tVar 4))))) (by rfl) sc_fitting_groups.nd (pi_list (pv 3)) (blkOk_by (own := [("family", 9)]) (N := ["weights", "allowances", "sums", "apart", "seat", "weight", "most", "group", "total", "family"]) (sc := defScope s_fitting_groups) (by decide +kernel)) (fun _ _ _ _ _ => (pg_name (i := 9) sc_fitting_groups.nd (by rfl) (by first | exact .inl rfl | exact .inr rfl))) (fun _ _ _ _ _ => pts_nil) (fun _ _ _ _ _ => (pe_op GL.op_orNR (pv 9) (pe_op GL.op_shlNR (pv 9) (pe_op GL.op_oneShlR pe_int (pv 4)))))) (pv 3))))))
    (pss_one (ps_ret (pe_lc (own := [("most", 6)]) (wi := (iList K (tVar 1))) (g := (gName 6)) (tt := tYes) (te := (tLc (iEnum K (tCons (tVar 2) tNil)) (gTup K 2 (gCons (gName 7) (gCons (gName 8) gNil))) (tTest (tOp (rI0 fun i j => .bl (decide (i ≤ j))) (tVar 8) (tVar 6))) (tTup (tCons (tVar 7) (tCons (tOp (rIx K) (tVar 3) (tVar 7)) tNil))) [7, 8])) (by rfl) sc_fitting_groups.nd (pi_list (pv 1)) (blkOk_by (own := [("most", 6)]) (N := ["weights", "allowances", "sums", "apart", "seat", "weight", "most", "group", "total", "family"]) (sc := defScope s_fitting_groups) (by decide +kernel)) (fun _ _ _ _ _ => (pg_name (i := 6) sc_fitting_groups.nd (by rfl) (by first | exact .inl rfl | exact .inr rfl))) (fun _ _ _ _ _ => pts_nil) (fun _ _ _ _ _ => (pe_lc (own := [("group", 7), ("total", 8)]) (wi := (iEnum K (tCons (tVar 2) tNil))) (g := (gTup K 2 (gCons (gName 7) (gCons (gName 8) gNil)))) (tt := (tTest (tOp (rI0 fun i j => .bl (decide (i ≤ j))) (tVar 8) (tVar 6)))) (te := (tTup (tCons (tVar 7) (tCons (tOp (rIx K) (tVar 3) (tVar 7)) tNil)))) (by rfl) sc_fitting_groups.nd (pi_enum (by rfl) T.m_enumerate (pa_cons (pv 2) pa_nil)) (blkOk_by (own := [("group", 7), ("total", 8)]) (N := ["weights", "allowances", "sums", "apart", "seat", "weight", "most", "group", "total", "family"]) (sc := relS _ (defScope s_fitting_groups)) (by decide +kernel)) (fun _ _ _ _ _ => (pg_tup (by rfl) (pgs_cons (pg_name (i := 7) sc_fitting_groups.nd (by rfl) (by first | exact .inl rfl | exact .inr rfl)) (pgs_cons (pg_name (i := 8) sc_fitting_groups.nd (by rfl) (by first | exact .inl rfl | exact .inr rfl)) pgs_nil)))) (fun _ _ _ _ _ => (pts_one (pt_cmpR op_le (pv 8) (pv 6) (nomark _)))) (fun _ _ _ _ _ => (pe_tup (pa_cons (pv 7) (pa_cons (pe_ix (kIx (K := K)) (pv 3) (pv 7) (fun _ _ => rfl)) pa_nil)))))))))))), r_fitting_groups T.cf h⟩
theorem ok_grown (T : Txt K mg) : GL.FnG P w K mg base 1 T.f_grown T.d_grown ["family", "groups"] (sp_grown K T.C) := by
  refine GL.okG (k := 0) T.F_grown sc_grown (fun vs H Q E h => ln_grown h) (fun cdv A outer s H vs Q E hg hr h => ?_)
  exact ⟨t_grown K T.C, (pss_cons (ps_set (i := 2) sc_grown.nd (by rfl) (by first | exact .inl rfl | exact .inr rfl) pe_int)
    (pss_cons (ps_for PassesOwn.never (by rfl) (pi_list (pv 1)) (pg_tup (by rfl) (pgs_cons (pg_name (i := 3) sc_grown.nd (by rfl) (by first | exact .inl rfl | exact .inr rfl)) (pgs_cons (pg_name (i := 4) sc_grown.nd (by rfl) (by first | exact .inl rfl | exact .inr rfl)) pgs_nil)))
    (pss_one (ps_aug (i := 2) sc_grown.nd (by rfl) (by first | exact .inl rfl | exact .inr rfl) (pe_op GL.op_shlNR (pe_op GL.op_andNR (pv 0) (pv 4)) (pv 3)) GL.ip_orN)))
    (pss_one (ps_ret (pv 2))))), r_grown T.cf h⟩
theorem ok_is_integer (T : Txt K mg) : GL.FnG P w K mg base 1 T.f_is_integer T.d_is_integer ["thing"] (sp_is_integer K T.C) := by
  refine GL.okG (k := 0) T.F_is_integer sc_is_integer (fun vs H Q E h => ln_is_integer h) (fun cdv A outer s H vs Q E hg hr h => ?_)
  exact ⟨t_is_integer K T.C, (pss_one (ps_ret (pe_and (pe_callB call_isi (by rfl) T.m_isinstance PyProof.Rows.boot_isinstance (pa_cons (pv 0) (pa_cons (pe_bltn (by rfl) T.m_int bt_int rfl) pa_nil))) (pe_one (pe_not (pe_callB call_isi (by rfl) T.m_isinstance PyProof.Rows.boot_isinstance (pa_cons (pv 0) (pa_cons (pe_bltn (by rfl) T.m_bool bt_bool rfl) pa_nil)))))))), r_is_integer T.cf h⟩
theorem ok_C_repr (T : Txt K mg) : GL.FnG P w K mg base 1 T.f_C_repr T.d_C_repr ["self"] (sp_C_repr K T.C) := by
  refine GL.okG (k := 0) T.F_C_repr sc_C_repr (fun vs H Q E h => ln_C_repr h) (fun cdv A outer s H vs Q E hg hr h => ?_)
  exact ⟨t_C_repr K T.C, (pss_one (ps_ret (pe_joined (.cons pe_str (.cons (GL.pe_fmtD hg (room100 hr) (pe_fld (pv 0) rfl)) (.cons pe_str (.cons (GL.pe_fmtD hg (room100 hr) (pe_fld (pv 0) rfl)) (.cons pe_str .nil)))))))), r_C_repr T.cf h⟩
theorem ok_C_weights (T : Txt K mg) : GL.FnG P w K mg base 1 T.f_C_weights T.d_C_weights ["self"] (sp_C_weights K T.C) := by
  refine GL.okG (k := 0) T.F_C_weights sc_C_weights (fun vs H Q E h => ln_C_weights h) (fun cdv A outer s H vs Q E hg hr h => ?_)
  exact ⟨t_C_weights K T.C, (pss_one (ps_ret (pe_callTy (kList (K := K)) (by rfl) T.m_list bt_list (pa_cons (pe_fld (pv 0) rfl) pa_nil)))), r_C_weights T.cf h⟩
theorem ok_C_total (T : Txt K mg) : GL.FnG P w K mg base 1 T.f_C_total T.d_C_total ["self"] (sp_C_total K T.C) := by
  refine GL.okG (k := 0) T.F_C_total sc_C_total (fun vs H Q E h => ln_C_total h) (fun cdv A outer s H vs Q E hg hr h => ?_)
  exact ⟨t_C_total K T.C, (pss_one (ps_ret (pe_callB (kSum (K := K)) (by rfl) T.m_sum bt_sum (pa_cons (pe_fld (pv 0) rfl) pa_nil)))), r_C_total T.cf h⟩
theorem ok_law_bag (T : Txt K mg) : GL.FnG P w K mg base 1 T.f_law_bag T.d_law_bag ["script"] (sp_law_bag K T.C) := by
  refine GL.okG (k := 0) T.F_law_bag sc_law_bag (fun vs H Q E h => ln_law_bag h) (fun cdv A outer s H vs Q E hg hr h => ?_)
  exact ⟨t_law_bag K T.C, (pss_one (ps_ret (pe_lst (pa_cons pe_int (pa_cons pe_int (pa_cons pe_int (pa_cons (pe_lc (own := [("cell", 1)]) (wi := (iList K (tSl (rSl K) (tVar 0) tNoPart (tPart (tC (.int 63)))))) (g := (gName 1)) (tt := tYes) (te := (tCB rAbs (tCons (tVar 1) tNil))) (by rfl) sc_law_bag.nd (pi_list (pe_slice (kSl (K := K)) (pv 0) po_none (po_some pe_int))) (blkOk_by (own := [("cell", 1)]) (N := ["script", "cell"]) (sc := defScope s_law_bag) (by decide +kernel)) (fun _ _ _ _ _ => (pg_name (i := 1) sc_law_bag.nd (by rfl) (by first | exact .inl rfl | exact .inr rfl))) (fun _ _ _ _ _ => pts_nil) (fun _ _ _ _ _ => (pe_callB kAbs (by rfl) T.m_abs bt_abs (pa_cons (pv 1) pa_nil)))) pa_nil))))))), r_law_bag T.cf h⟩
theorem ok_law_take (T : Txt K mg) : GL.FnG P w K mg base 1 T.f_law_take T.d_law_take ["bag", "many"] (sp_law_take K T.C) := by
  refine GL.okG (k := 0) T.F_law_take sc_law_take (fun vs H Q E h => ln_law_take h) (fun cdv A outer s H vs Q E hg hr h => ?_)
  exact ⟨t_law_take K T.C, (pss_cons (ps_if (pt_cmpR (kEq (K := K) (room100 hr)) (pe_ix (kIx (K := K)) (pv 0) pe_int (fun _ _ => rfl)) pe_int (nomark _))
    (pss_cons (ps_set (i := 2) sc_law_take.nd (by rfl) (by first | exact .inl rfl | exact .inr rfl) pe_int)
    (pss_cons (ps_if (pt_cmpR op_lt (pe_ix (kIx (K := K)) (pv 0) pe_int (fun _ _ => rfl)) (pe_callB (kLen (K := K)) (by rfl) T.m_len bt_len (pa_cons (pe_ix (kIx (K := K)) (pv 0) pe_int (fun _ _ => rfl)) pa_nil)) (nomark _))
    (pss_one (ps_set (i := 2) sc_law_take.nd (by rfl) (by first | exact .inl rfl | exact .inr rfl) (pe_ix (kIx (K := K)) (pe_ix (kIx (K := K)) (pv 0) pe_int (fun _ _ => rfl)) (pe_ix (kIx (K := K)) (pv 0) pe_int (fun _ _ => rfl)) (fun _ _ => rfl))))
    pss_nil)
    (pss_cons (ps_augS (pv 0) pe_int (kGet (K := K)) pe_int ip_add set_list)
    (pss_cons (ps_if (pt_cmpR op_ge (pv 2) pe_int (nomark _))
    (pss_one (ps_asg (pv 2) (pg_sub (pv 0) pe_int set_list)))
    pss_nil)
    (pss_one (ps_asg (pe_op op_mod (pe_op op_add (pe_op op_add (pe_op op_mul (pe_ix (kIx (K := K)) (pv 0) pe_int (fun _ _ => rfl)) pe_int) (pe_op op_mod (pv 2) pe_int)) (pe_op op_mul pe_int (pe_ix (kIx (K := K)) (pv 0) pe_int (fun _ _ => rfl)))) pe_int) (pg_sub (pv 0) pe_int set_list)))))))
    pss_nil)
    (pss_cons (ps_if (pt_cmpR op_gt (pe_ix (kIx (K := K)) (pv 0) pe_int (fun _ _ => rfl)) pe_int (nomark _))
    (pss_cons (ps_set (i := 3) sc_law_take.nd (by rfl) (by first | exact .inl rfl | exact .inr rfl) (pe_op op_mod (pe_ix (kIx (K := K)) (pv 0) pe_int (fun _ _ => rfl)) (pv 1)))
    (pss_cons (ps_asg (pe_op op_fdivW (pe_ix (kIx (K := K)) (pv 0) pe_int (fun _ _ => rfl)) (pv 1)) (pg_sub (pv 0) pe_int set_list))
    (pss_one (ps_ret (pv 3)))))
    pss_nil)
    (pss_cons (ps_set (i := 4) sc_law_take.nd (by rfl) (by first | exact .inl rfl | exact .inr rfl) (pe_op op_mod (pe_op op_mul (pe_op op_add (pe_ix (kIx (K := K)) (pv 0) pe_int (fun _ _ => rfl)) pe_int) pe_int) pe_int))
    (pss_cons (ps_set (i := 5) sc_law_take.nd (by rfl) (by first | exact .inl rfl | exact .inr rfl) (pe_op op_mod (pe_op op_mul (pe_op op_mod (pe_op op_mul (pv 4) (pv 4)) pe_int) pe_int) pe_int))
    (pss_cons (ps_if (pt_cmpR op_gt (pv 1) pe_int (nomark _))
    (pss_one (ps_ret (pe_op op_mod (pe_op op_add (pe_op op_mul (pv 5) pe_int) (pv 4)) (pv 1))))
    pss_nil)
    (pss_one (ps_ret (pe_op op_mod (pe_op op_fdivW (pv 5) pe_int) (pv 1))))))))), r_law_take T.cf h⟩
theorem ok_law_alike (T : Txt K mg) : GL.FnG P w K mg base 1 T.f_law_alike T.d_law_alike ["found", "due"] (sp_law_alike K T.C) := by
  refine GL.okG (k := 0) T.F_law_alike sc_law_alike (fun vs H Q E h => ln_law_alike h) (fun cdv A outer s H vs Q E hg hr h => ?_)
  exact ⟨t_law_alike K T.C, (pss_one (ps_ret (pe_and (pe_cmpR (kEq (K := K) (room100 hr)) (pv 0) (pv 1) (nomark _)) (pe_one (pe_cmpR op_eq (pe_callB (kRepr (K := K) hg (room100 hr)) (by rfl) T.m_repr bt_repr (pa_cons (pv 0) pa_nil)) (pe_callB (kRepr (K := K) hg (room100 hr)) (by rfl) T.m_repr bt_repr (pa_cons (pv 1) pa_nil)) (nomark _)))))), r_law_alike T.cf h⟩
theorem ok_law_rooms (T : Txt K mg) : GL.FnG P w K mg base 1 T.f_law_rooms T.d_law_rooms ["parts", "sides"] (sp_law_rooms K T.C) := by
  refine GL.okG (k := 0) T.F_law_rooms sc_law_rooms (fun vs H Q E h => ln_law_rooms h) (fun cdv A outer s H vs Q E hg hr h => ?_)
  exact ⟨t_law_rooms K T.C, (pss_cons (ps_asg (pv 0) (pg_tup (by rfl) (pgs_cons (pg_name (i := 2) sc_law_rooms.nd (by rfl) (by first | exact .inl rfl | exact .inr rfl)) (pgs_cons (pg_name (i := 3) sc_law_rooms.nd (by rfl) (by first | exact .inl rfl | exact .inr rfl)) pgs_nil))))
    (pss_one (ps_ret (pe_lc (own := [("side", 4)]) (wi := (iList K (tVar 1))) (g := (gName 4)) (tt := tYes) (te := (tOp (rIx K) (tLst (tCons (tOp (rI0 fun i j => .int (i - j)) (tCB (rSum K) (tCons (tVar 2) tNil)) (tOp (rIx K) (tVar 3) (tOp (rIx K) (tVar 4) (tC (.int 0))))) (tCons (tOp (rI0 fun i j => .int (i - j)) (tOp (rIx K) (tVar 3) (tOp (rIx K) (tVar 4) (tC (.int 0)))) (tC (.int 1))) tNil))) (tCB rInt1 (tCons (tOp (rEqD K) (tOp (rIx K) (tVar 4) (tC (.int 1))) (tC (.str ("least" : Str)))) tNil)))) (by rfl) sc_law_rooms.nd (pi_list (pv 1)) (blkOk_by (own := [("side", 4)]) (N := ["parts", "sides", "weights", "quotas", "side"]) (sc := defScope s_law_rooms) (by decide +kernel)) (fun _ _ _ _ _ => (pg_name (i := 4) sc_law_rooms.nd (by rfl) (by first | exact .inl rfl | exact .inr rfl))) (fun _ _ _ _ _ => pts_nil) (fun _ _ _ _ _ => (pe_ix (kIx (K := K)) (pe_lst (pa_cons (pe_op op_sub (pe_callB (kSum (K := K)) (by rfl) T.m_sum bt_sum (pa_cons (pv 2) pa_nil)) (pe_ix (kIx (K := K)) (pv 3) (pe_ix (kIx (K := K)) (pv 4) pe_int (fun _ _ => rfl)) (fun _ _ => rfl))) (pa_cons (pe_op op_sub (pe_ix (kIx (K := K)) (pv 3) (pe_ix (kIx (K := K)) (pv 4) pe_int (fun _ _ => rfl)) (fun _ _ => rfl)) pe_int) pa_nil))) (pe_callTy kInt1 (by rfl) T.m_int bt_int (pa_cons (pe_cmpR (kEq (K := K) (room100 hr)) (pe_ix (kIx (K := K)) (pv 4) pe_int (fun _ _ => rfl)) pe_str (nomark _)) pa_nil)) (fun _ _ => rfl))))))), r_law_rooms T.cf h⟩
theorem ok_law_heavy (T : Txt K mg) : GL.FnG P w K mg base 1 T.f_law_heavy T.d_law_heavy ["weights", "rooms"] (sp_law_heavy K T.C) := by
  refine GL.okG (k := 0) T.F_law_heavy sc_law_heavy (fun vs H Q E h => ln_law_heavy h) (fun cdv A outer s H vs Q E hg hr h => ?_)
  exact ⟨t_law_heavy K T.C, (pss_cons (ps_asg (pe_tup (pa_cons (pe_callBK (kSrtRev (K := K)) (by rfl) T.m_sorted bt_sorted (pa_cons (pv 1) pa_nil) (pk_cons pe_bl pk_nil)) (pa_cons (pe_callBK (kSrtRev (K := K)) (by rfl) T.m_sorted bt_sorted (pa_cons (pv 0) pa_nil) (pk_cons pe_bl pk_nil)) (pa_cons (GL.pe_dispT (units1 hr) (pe_tup pa_nil) pe_bl) pa_nil)))) (pg_tup (by rfl) (pgs_cons (pg_name (i := 2) sc_law_heavy.nd (by rfl) (by first | exact .inl rfl | exact .inr rfl)) (pgs_cons (pg_name (i := 3) sc_law_heavy.nd (by rfl) (by first | exact .inl rfl | exact .inr rfl)) (pgs_cons (pg_name (i := 4) sc_law_heavy.nd (by rfl) (by first | exact .inl rfl | exact .inr rfl)) pgs_nil)))))
    (pss_cons (ps_if (PW.pt (pw_or (pt_cmpR op_lt (pe_callB (kSum (K := K)) (by rfl) T.m_sum bt_sum (pa_cons (pv 2) pa_nil)) (pe_callB (kSum (K := K)) (by rfl) T.m_sum bt_sum (pa_cons (pv 3) pa_nil)) (nomark _)) (pw_or1 (pt_cmpR op_gt (pe_ix (kIx (K := K)) (pv 3) pe_int (fun _ _ => rfl)) (pe_callB (kMaxL (K := K)) (by rfl) T.m_max bt_max (pa_cons (pe_op op_cat (pv 2) (pe_lst (pa_cons pe_int pa_nil))) pa_nil)) (nomark _)))))
    (pss_one (ps_ret pe_bl))
    pss_nil)
    (pss_cons (ps_set (i := 5) sc_law_heavy.nd (by rfl) (by first | exact .inl rfl | exact .inr rfl) (pe_callTy (kList (K := K)) (by rfl) T.m_list bt_list (pa_cons (pv 2) pa_nil)))
    (pss_cons (ps_for PassesOwn.never (by rfl) (pi_list (pv 3)) (pg_name (i := 6) sc_law_heavy.nd (by rfl) (by first | exact .inl rfl | exact .inr rfl))
    (pss_cons (ps_setLc (i := 7) (own := [("k", 10)]) (wi := (iRng1 (tCons (tCB (DL.rLen K) (tCons (tVar 5) tNil)) tNil))) (g := (gName 10)) (tt := (tTest (tOp (rI0 fun i j => .bl (decide (j ≤ i))) (tOp (rIx K) (tVar 5) (tVar 10)) (tVar 6)))) (te := (tVar 10)) (by rfl) sc_law_heavy.nd (by rfl) (by rfl) (sw_true (by rfl) (by rfl) (by rfl) (by decide +kernel)) (pi_range1 (by rfl) T.m_range (pa_cons (pe_callB (kLen (K := K)) (by rfl) T.m_len bt_len (pa_cons (pv 5) pa_nil)) pa_nil)) (blkOk_by (own := [("k", 10)]) (N := ["weights", "rooms", "tops", "some", "level", "spare", "weight", "spots", "later", "load", "k", "one", "j"]) (sc := defScope s_law_heavy) (by decide +kernel)) (fun _ _ _ _ _ => (pg_name (i := 10) sc_law_heavy.nd (by rfl) (by first | exact .inl rfl | exact .inr rfl))) (fun _ _ _ _ _ => (pts_one (pt_cmpR op_ge (pe_ix (kIx (K := K)) (pv 5) (pv 10) (fun _ _ => rfl)) (pv 6) (nomark _)))) (fun _ _ _ _ _ => (pv 10)))
    (pss_one (ps_if (pt_cmpR (kNe (K := K) (room100 hr)) (pv 7) (pe_lst pa_nil) (nomark _))
    (pss_one (ps_augS (pv 5) (pe_ix (kIx (K := K)) (pv 7) pe_int (fun _ _ => rfl)) (kGet (K := K)) (pv 6) ip_sub set_list))
    pss_nil))))
    (pss_cons (ps_if (pt_cmpR (kEq (K := K) (room100 hr)) (pe_op op_sub (pe_callB (kSum (K := K)) (by rfl) T.m_sum bt_sum (pa_cons (pv 2) pa_nil)) (pe_callB (kSum (K := K)) (by rfl) T.m_sum bt_sum (pa_cons (pv 5) pa_nil))) (pe_callB (kSum (K := K)) (by rfl) T.m_sum bt_sum (pa_cons (pv 3) pa_nil)) (nomark _))
    (pss_one (ps_ret pe_bl))
    pss_nil)
    (pss_cons (ps_for PassesOwn.never (by rfl) (pi_list (pv 3)) (pg_name (i := 6) sc_law_heavy.nd (by rfl) (by first | exact .inl rfl | exact .inr rfl))
    (pss_cons (ps_set (i := 8) sc_law_heavy.nd (by rfl) (by first | exact .inl rfl | exact .inr rfl) pe_dnewT)
    (pss_cons (ps_lock (ps_for PassesOwn.never (by rfl) (pi_keys (pv 4)) (pg_name (i := 9) sc_law_heavy.nd (by rfl) (by first | exact .inl rfl | exact .inr rfl))
    (pss_one (ps_for PassesOwn.never (by rfl) (pi_range1 (by rfl) T.m_range (pa_cons (pe_op op_add (pe_callB (kLen (K := K)) (by rfl) T.m_len bt_len (pa_cons (pv 9) pa_nil)) pe_int) pa_nil)) (pg_name (i := 10) sc_law_heavy.nd (by rfl) (by first | exact .inl rfl | exact .inr rfl))
    (pss_cons (ps_set (i := 11) sc_law_heavy.nd (by rfl) (by first | exact .inl rfl | exact .inr rfl) (pe_callTy (kTuple (K := K)) (by rfl) T.m_tuple bt_tuple (pa_cons (pe_callBK (kSrtRT (K := K)) (by rfl) T.m_sorted bt_sorted (pa_cons (pe_op (kCatA (K := K)) (pe_op (kCatA (K := K)) (pe_slice (kSlA (K := K)) (pv 9) po_none (po_some (pv 10))) (pe_tup (pa_cons (pe_op op_add (pe_ix (kIx (K := K)) (pe_op (kCatA (K := K)) (pv 9) (pe_tup (pa_cons pe_int pa_nil))) (pv 10) (fun _ _ => rfl)) (pv 6)) pa_nil))) (pe_slice (kSlA (K := K)) (pv 9) (po_some (pe_op op_add (pv 10) pe_int)) po_none)) pa_nil) (pk_cons pe_bl pk_nil)) pa_nil)))
    (pss_one (ps_if (PW.pt (pw_and (pt_cmpR op_le (pe_callB (kLen (K := K)) (by rfl) T.m_len bt_len (pa_cons (pv 11) pa_nil)) (pe_callB (kLen (K := K)) (by rfl) T.m_len bt_len (pa_cons (pv 2) pa_nil)) (nomark _)) (pw_and1 (pt_val (pe_callB (kAll (K := K)) (by rfl) T.m_all bt_all (pa_cons (pe_lc (own := [("j", 12)]) (wi := (iRng1 (tCons (tCB (DL.rLen K) (tCons (tVar 11) tNil)) tNil))) (g := (gName 12)) (tt := tYes) (te := (tOp (rI0 fun i j => .bl (decide (i ≤ j))) (tOp (rIx K) (tVar 11) (tVar 12)) (tOp (rIx K) (tVar 2) (tVar 12)))) (by rfl) sc_law_heavy.nd (pi_range1 (by rfl) T.m_range (pa_cons (pe_callB (kLen (K := K)) (by rfl) T.m_len bt_len (pa_cons (pv 11) pa_nil)) pa_nil)) (blkOk_by (own := [("j", 12)]) (N := ["weights", "rooms", "tops", "some", "level", "spare", "weight", "spots", "later", "load", "k", "one", "j"]) (sc := defScope s_law_heavy) (by decide +kernel)) (fun _ _ _ _ _ => (pg_name (i := 12) sc_law_heavy.nd (by rfl) (by first | exact .inl rfl | exact .inr rfl))) (fun _ _ _ _ _ => pts_nil) (fun _ _ _ _ _ => (pe_cmpR op_le (pe_ix (kIx (K := K)) (pv 11) (pv 12) (fun _ _ => rfl)) (pe_ix (kIx (K := K)) (pv 2) (pv 12) (fun _ _ => rfl)) (nomark _)))) pa_nil))))))
    (pss_one (ps_asg pe_bl (pg_sub (pv 8) (pv 11) (set_dict (units1 hr)))))
    pss_nil)))))))
    (pss_one (ps_set (i := 4) sc_law_heavy.nd (by rfl) (by first | exact .inl rfl | exact .inr rfl) (pv 8))))))
    (pss_one (ps_ret (pe_cmpR op_gt (pe_callB call_len_dT (by rfl) T.m_len bt_len (pa_cons (pv 4) pa_nil)) pe_int (nomark _)))))))))), r_law_heavy T.cf h⟩
theorem ok_holds_all (T : Txt K mg) : GL.FnG P w K mg base 2 T.f_holds_all T.d_holds_all ["family", "many"] (sp_holds_all K T.C) := by
  refine GL.okG (k := 1) T.F_holds_all sc_holds_all (fun vs H Q E h => ln_holds_all h) (fun cdv A outer s H vs Q E hg hr h => ?_)
  exact ⟨t_holds_all K T.C, (pss_one (ps_ret (pe_cmpR (kEq (K := K) (room100 hr)) (pe_op GL.op_oddR (pe_op GL.op_shrNR (pv 0) (GL.pe_callG (ok_all_seats T) hg (hr.mono (by decide)) (by rfl) T.g_all_seats T.F_all_seats.kp (bd_all_seats T) pass0 (pa_cons (pv 1) pa_nil))) pe_int) pe_int (nomark _)))), r_holds_all T.cf h⟩
theorem ok_C_allowance (T : Txt K mg) : GL.FnG P w K mg base 2 T.f_C_allowance T.d_C_allowance ["self", "side"] (sp_C_allowance K T.C) := by
  refine GL.okG (k := 1) T.F_C_allowance sc_C_allowance (fun vs H Q E h => ln_C_allowance h) (fun cdv A outer s H vs Q E hg hr h => ?_)
  exact ⟨t_C_allowance K T.C, (pss_cons (ps_asg (pv 1) (pg_tup (by rfl) (pgs_cons (pg_name (i := 2) sc_C_allowance.nd (by rfl) (by first | exact .inl rfl | exact .inr rfl)) (pgs_cons (pg_name (i := 3) sc_C_allowance.nd (by rfl) (by first | exact .inl rfl | exact .inr rfl)) pgs_nil))))
    (pss_cons (ps_if (pt_cmpR (kEq (K := K) (room100 hr)) (pv 3) pe_str (nomark _))
    (pss_one (ps_ret (pe_op op_sub (pe_ix (kIx (K := K)) (pe_fld (pv 0) rfl) (pv 2) (fun _ _ => rfl)) pe_int)))
    pss_nil)
    (pss_one (ps_ret (pe_op op_sub (GL.pe_meth0G (pv 0) T.cf.cl T.M_C_total (ok_C_total T) hg (hr.mono (by decide)) (bd_C_total T) pass0) (pe_ix (kIx (K := K)) (pe_fld (pv 0) rfl) (pv 2) (fun _ _ => rfl))))))), r_C_allowance T.cf h⟩
theorem ok_are_counts (T : Txt K mg) : GL.FnG P w K mg base 2 T.f_are_counts T.d_are_counts ["thing", "fewest", "most", "greatest"] (sp_are_counts K T.C) := by
  refine GL.okG (k := 1) T.F_are_counts sc_are_counts (fun vs H Q E h => ln_are_counts h) (fun cdv A outer s H vs Q E hg hr h => ?_)
  exact ⟨t_are_counts K T.C, (pss_cons (ps_if (PW.pt (pw_or (pt_not (pt_val (pe_callB call_isi (by rfl) T.m_isinstance PyProof.Rows.boot_isinstance (pa_cons (pv 0) (pa_cons (pe_bltn (by rfl) T.m_list bt_list rfl) pa_nil))))) (pw_or1 (pt_not (pt_chain op_le op_le (pv 1) (pe_callB (kLen (K := K)) (by rfl) T.m_len bt_len (pa_cons (pv 0) pa_nil)) (pv 2))))))
    (pss_one (ps_ret pe_bl))
    pss_nil)
    (pss_one (ps_ret (pe_callB (kAll (K := K)) (by rfl) T.m_all bt_all (pa_cons (pe_lc (own := [("part", 4)]) (wi := (iList K (tVar 0))) (g := (gName 4)) (tt := tYes) (te := (tAndV (tCall (sp_is_integer K T.C) [] E0 (tCons (tVar 4) tNil)) (tChain (rI0 fun i j => .bl (decide (i ≤ j))) (rI0 fun i j => .bl (decide (i ≤ j))) (tC (.int 1)) (tVar 4) (tVar 3)))) (by rfl) sc_are_counts.nd (pi_list (pv 0)) (blkOk_by (own := [("part", 4)]) (N := ["thing", "fewest", "most", "greatest", "part"]) (sc := defScope s_are_counts) (by decide +kernel)) (fun _ _ _ _ _ => (pg_name (i := 4) sc_are_counts.nd (by rfl) (by first | exact .inl rfl | exact .inr rfl))) (fun _ _ _ _ _ => pts_nil) (fun _ _ _ _ _ => (pe_and (GL.pe_callG (ok_is_integer T) hg (hr.mono (by decide)) (by rfl) T.g_is_integer T.F_is_integer.kp (bd_is_integer T) pass0 (pa_cons (pv 4) pa_nil)) (pe_one (pe_chain op_le op_le pe_int (pv 4) (pv 3)))))) pa_nil))))), r_are_counts T.cf h⟩
theorem ok_law_council (T : Txt K mg) : GL.FnG P w K mg base 2 T.f_law_council T.d_law_council ["bag", "width", "most"] (sp_law_council K T.C) := by
  refine GL.okG (k := 1) T.F_law_council sc_law_council (fun vs H Q E h => ln_law_council h) (fun cdv A outer s H vs Q E hg hr h => ?_)
  exact ⟨t_law_council K T.C, (pss_cons (ps_asg (pe_tup (pa_cons (pe_op op_add pe_int (GL.pe_callG (ok_law_take T) hg (hr.mono (by decide)) (by rfl) T.g_law_take T.F_law_take.kp (bd_law_take T) pass0 (pa_cons (pv 0) (pa_cons (pe_op op_sub (pv 2) pe_int) pa_nil)))) (pa_cons (GL.pe_callG (ok_law_take T) hg (hr.mono (by decide)) (by rfl) T.g_law_take T.F_law_take.kp (bd_law_take T) pass0 (pa_cons (pv 0) (pa_cons pe_int pa_nil))) pa_nil))) (pg_tup (by rfl) (pgs_cons (pg_name (i := 3) sc_law_council.nd (by rfl) (by first | exact .inl rfl | exact .inr rfl)) (pgs_cons (pg_name (i := 4) sc_law_council.nd (by rfl) (by first | exact .inl rfl | exact .inr rfl)) pgs_nil))))
    (pss_cons (ps_setLc (i := 5) (own := [("k", 10)]) (wi := (iRng1 (tCons (tVar 3) tNil))) (g := (gName 10)) (tt := tYes) (te := (tOp (rI0 fun i j => .int (i + j)) (tC (.int 1)) (tCall (sp_law_take K T.C) [] E0 (tCons (tVar 0) (tCons (tOp (rIx K) (tLst (tCons (tC (.int 1)) (tCons (tC (.int 1)) (tCons (tC (.int 2)) (tCons (tC (.int 5)) (tCons (tC (.int 1000000)) tNil)))))) (tVar 4)) tNil))))) (by rfl) sc_law_council.nd (by rfl) (by rfl) (sw_true (by rfl) (by rfl) (by rfl) (by decide +kernel)) (pi_range1 (by rfl) T.m_range (pa_cons (pv 3) pa_nil)) (blkOk_by (own := [("k", 10)]) (N := ["bag", "width", "most", "seats", "way", "weights", "total", "quotas", "column", "some", "k"]) (sc := defScope s_law_council) (by decide +kernel)) (fun _ _ _ _ _ => (pg_name (i := 10) sc_law_council.nd (by rfl) (by first | exact .inl rfl | exact .inr rfl))) (fun _ _ _ _ _ => pts_nil) (fun _ _ _ _ _ => (pe_op op_add pe_int (GL.pe_callG (ok_law_take T) hg (hr.mono (by decide)) (by rfl) T.g_law_take T.F_law_take.kp (bd_law_take T) pass0 (pa_cons (pv 0) (pa_cons (pe_ix (kIx (K := K)) (pe_lst (pa_cons pe_int (pa_cons pe_int (pa_cons pe_int (pa_cons pe_int (pa_cons pe_int pa_nil)))))) (pv 4) (fun _ _ => rfl)) pa_nil))))))
    (pss_cons (ps_set (i := 6) sc_law_council.nd (by rfl) (by first | exact .inl rfl | exact .inr rfl) (pe_callB (kSum (K := K)) (by rfl) T.m_sum bt_sum (pa_cons (pv 5) pa_nil)))
    (pss_cons (ps_set (i := 7) sc_law_council.nd (by rfl) (by first | exact .inl rfl | exact .inr rfl) (pe_lst pa_nil))
    (pss_cons (ps_for PassesOwn.never (by rfl) (pi_range1 (by rfl) T.m_range (pa_cons (pv 1) pa_nil)) (pg_name (i := 8) sc_law_council.nd (by rfl) (by first | exact .inl rfl | exact .inr rfl))
    (pss_cons (ps_set (i := 9) sc_law_council.nd (by rfl) (by first | exact .inl rfl | exact .inr rfl) (pe_lst (pa_cons (pe_op op_add (pe_op op_fdivW (pv 6) pe_int) pe_int) (pa_cons (pe_op op_add pe_int (GL.pe_callG (ok_law_take T) hg (hr.mono (by decide)) (by rfl) T.g_law_take T.F_law_take.kp (bd_law_take T) pass0 (pa_cons (pv 0) (pa_cons (pv 6) pa_nil)))) (pa_cons pe_int (pa_cons (pv 6) pa_nil))))))
    (pss_one (ps_expr (pe_bm PySem.F.plainAttrs_list PySem.F.slot_list_append PySem.F.type_list_append mt_append (pv 7) (pa_cons (pe_ix (kIx (K := K)) (pv 9) (pe_op op_mul (pe_callB kMax2 (by rfl) T.m_max bt_max (pa_cons pe_int (pa_cons (pe_op op_sub (GL.pe_callG (ok_law_take T) hg (hr.mono (by decide)) (by rfl) T.g_law_take T.F_law_take.kp (bd_law_take T) pass0 (pa_cons (pv 0) (pa_cons pe_int pa_nil))) pe_int) pa_nil))) (pe_callTy kInt1 (by rfl) T.m_int bt_int (pa_cons (pe_cmpR op_gt (pv 4) pe_int (nomark _)) pa_nil))) (fun _ _ => rfl)) pa_nil))))))
    (pss_one (ps_ret (pe_tup (pa_cons (pv 5) (pa_cons (pv 7) pa_nil)))))))))), r_law_council T.cf h⟩
theorem ok_law_light (T : Txt K mg) : GL.FnG P w K mg base 2 T.f_law_light T.d_law_light ["councils", "sides"] (sp_law_light K T.C) := by
  refine GL.okG (k := 1) T.F_law_light sc_law_light (fun vs H Q E h => ln_law_light h) (fun cdv A outer s H vs Q E hg hr h => ?_)
  exact ⟨t_law_light K T.C, (pss_one (ps_ret (pe_not (pe_callB (kAny (K := K)) (by rfl) T.m_any bt_any (pa_cons (pe_lc (own := [("parts", 2)]) (wi := (iList K (tVar 0))) (g := (gName 2)) (tt := tYes) (te := (tCall (sp_law_heavy K T.C) [] E0 (tCons (tOp (rIx K) (tVar 2) (tC (.int 0))) (tCons (tCall (sp_law_rooms K T.C) [] E0 (tCons (tVar 2) (tCons (tVar 1) tNil))) tNil)))) (by rfl) sc_law_light.nd (pi_list (pv 0)) (blkOk_by (own := [("parts", 2)]) (N := ["councils", "sides", "parts"]) (sc := defScope s_law_light) (by decide +kernel)) (fun _ _ _ _ _ => (pg_name (i := 2) sc_law_light.nd (by rfl) (by first | exact .inl rfl | exact .inr rfl))) (fun _ _ _ _ _ => pts_nil) (fun _ _ _ _ _ => (GL.pe_callG (ok_law_heavy T) hg (hr.mono (by decide)) (by rfl) T.g_law_heavy T.F_law_heavy.kp (bd_law_heavy T) pass0 (pa_cons (pe_ix (kIx (K := K)) (pv 2) pe_int (fun _ _ => rfl)) (pa_cons (GL.pe_callG (ok_law_rooms T) hg (hr.mono (by decide)) (by rfl) T.g_law_rooms T.F_law_rooms.kp (bd_law_rooms T) pass0 (pa_cons (pv 2) (pa_cons (pv 1) pa_nil))) pa_nil))))) pa_nil))))), r_law_light T.cf h⟩
theorem ok_law_sides (T : Txt K mg) : GL.FnG P w K mg base 2 T.f_law_sides T.d_law_sides ["bag", "width", "most"] (sp_law_sides K T.C) := by
  refine GL.okG (k := 1) T.F_law_sides sc_law_sides (fun vs H Q E h => ln_law_sides h) (fun cdv A outer s H vs Q E hg hr h => ?_)
  exact ⟨t_law_sides K T.C, (pss_cons (ps_set (i := 3) sc_law_sides.nd (by rfl) (by first | exact .inl rfl | exact .inr rfl) (pe_lst pa_nil))
    (pss_cons (ps_for PassesOwn.never (by rfl) (pi_range1 (by rfl) T.m_range (pa_cons (GL.pe_callG (ok_law_take T) hg (hr.mono (by decide)) (by rfl) T.g_law_take T.F_law_take.kp (bd_law_take T) pass0 (pa_cons (pv 0) (pa_cons (pe_op op_add (pv 2) pe_int) pa_nil))) pa_nil)) (pg_name (i := 4) sc_law_sides.nd (by rfl) (by first | exact .inl rfl | exact .inr rfl))
    (pss_cons (ps_set (i := 5) sc_law_sides.nd (by rfl) (by first | exact .inl rfl | exact .inr rfl) (pe_tup (pa_cons (GL.pe_callG (ok_law_take T) hg (hr.mono (by decide)) (by rfl) T.g_law_take T.F_law_take.kp (bd_law_take T) pass0 (pa_cons (pv 0) (pa_cons (pv 1) pa_nil))) (pa_cons (pe_ix (kIx (K := K)) (pe_lst (pa_cons pe_str (pa_cons pe_str pa_nil))) (GL.pe_callG (ok_law_take T) hg (hr.mono (by decide)) (by rfl) T.g_law_take T.F_law_take.kp (bd_law_take T) pass0 (pa_cons (pv 0) (pa_cons pe_int pa_nil))) (fun _ _ => rfl)) pa_nil))))
    (pss_one (ps_if (pt_cmpR (kNotIn (K := K) (room100 hr)) (pv 5) (pv 3) (by rfl))
    (pss_one (ps_expr (pe_bm PySem.F.plainAttrs_list PySem.F.slot_list_insert PySem.F.type_list_insert mt_ins (pv 3) (pa_cons (GL.pe_callG (ok_law_take T) hg (hr.mono (by decide)) (by rfl) T.g_law_take T.F_law_take.kp (bd_law_take T) pass0 (pa_cons (pv 0) (pa_cons (pe_op op_add (pe_callB (kLen (K := K)) (by rfl) T.m_len bt_len (pa_cons (pv 3) pa_nil)) pe_int) pa_nil))) (pa_cons (pv 5) pa_nil)))))
    pss_nil))))
    (pss_one (ps_ret (pv 3))))), r_law_sides T.cf h⟩
theorem ok_allowances_of (T : Txt K mg) : GL.FnG P w K mg base 3 T.f_allowances_of T.d_allowances_of ["council", "sides"] (sp_allowances_of K T.C) := by
  refine GL.okG (k := 2) T.F_allowances_of sc_allowances_of (fun vs H Q E h => ln_allowances_of h) (fun cdv A outer s H vs Q E hg hr h => ?_)
  exact ⟨t_allowances_of K T.C, (pss_one (ps_ret (pe_lc (own := [("side", 2)]) (wi := (iList K (tVar 1))) (g := (gName 2)) (tt := tYes) (te := (tMeth T.C "allowance" (sp_C_allowance K T.C) [] E0 (tVar 0) (tCons (tVar 2) tNil))) (by rfl) sc_allowances_of.nd (pi_list (pv 1)) (blkOk_by (own := [("side", 2)]) (N := ["council", "sides", "side"]) (sc := defScope s_allowances_of) (by decide +kernel)) (fun _ _ _ _ _ => (pg_name (i := 2) sc_allowances_of.nd (by rfl) (by first | exact .inl rfl | exact .inr rfl))) (fun _ _ _ _ _ => pts_nil) (fun _ _ _ _ _ => (GL.pe_methG (pv 0) T.cf.cl T.M_C_allowance (ok_C_allowance T) hg (hr.mono (by decide)) (bd_C_allowance T) pass0 (pa_cons (pv 2) pa_nil)))))), r_allowances_of T.cf h⟩
theorem ok_can_fill (T : Txt K mg) : GL.FnG P w K mg base 3 T.f_can_fill T.d_can_fill ["weights", "allowances"] (sp_can_fill K T.C) := by
  refine GL.okG (k := 2) T.F_can_fill sc_can_fill (fun vs H Q E h => ln_can_fill h) (fun cdv A outer s H vs Q E hg hr h => ?_)
  exact ⟨t_can_fill K T.C, (pss_cons (ps_set (i := 2) sc_can_fill.nd (by rfl) (by first | exact .inl rfl | exact .inr rfl) pe_int)
    (pss_cons (ps_for PassesOwn.never (by rfl) (pi_list (GL.pe_callG (ok_fitting_groups T) hg (hr.mono (by decide)) (by rfl) T.g_fitting_groups T.F_fitting_groups.kp (bd_fitting_groups T) pass0 (pa_cons (pv 0) (pa_cons (pv 1) pa_nil)))) (pg_name (i := 3) sc_can_fill.nd (by rfl) (by first | exact .inl rfl | exact .inr rfl))
    (pss_one (ps_set (i := 2) sc_can_fill.nd (by rfl) (by first | exact .inl rfl | exact .inr rfl) (GL.pe_callG (ok_grown T) hg (hr.mono (by decide)) (by rfl) T.g_grown T.F_grown.kp (bd_grown T) pass0 (pa_cons (pv 2) (pa_cons (pv 3) pa_nil))))))
    (pss_one (ps_ret (GL.pe_callG (ok_holds_all T) hg (hr.mono (by decide)) (by rfl) T.g_holds_all T.F_holds_all.kp (bd_holds_all T) pass0 (pa_cons (pv 2) (pa_cons (pe_callB (kLen (K := K)) (by rfl) T.m_len bt_len (pa_cons (pv 0) pa_nil)) pa_nil))))))), r_can_fill T.cf h⟩
theorem ok_are_weights (T : Txt K mg) : GL.FnG P w K mg base 3 T.f_are_weights T.d_are_weights ["thing"] (sp_are_weights K T.C) := by
  refine GL.okG (k := 2) T.F_are_weights sc_are_weights (fun vs H Q E h => ln_are_weights h) (fun cdv A outer s H vs Q E hg hr h => ?_)
  exact ⟨t_are_weights K T.C, (pss_one (ps_ret (GL.pe_callG (ok_are_counts T) hg (hr.mono (by decide)) (by rfl) T.g_are_counts T.F_are_counts.kp (bd_are_counts T) pass0 (pa_cons (pv 0) (pa_cons (C8.pe_gc (by rfl) (T.c_FEWEST_SEATS.elim fun t h => ⟨_, h, ⟨t, rfl⟩⟩)) (pa_cons (C8.pe_gc (by rfl) (T.c_MOST_SEATS.elim fun t h => ⟨_, h, ⟨t, rfl⟩⟩)) (pa_cons (C8.pe_gc (by rfl) (T.c_GREATEST_WEIGHT.elim fun t h => ⟨_, h, ⟨t, rfl⟩⟩)) pa_nil))))))), r_are_weights T.cf h⟩
theorem ok_are_quotas (T : Txt K mg) : GL.FnG P w K mg base 3 T.f_are_quotas T.d_are_quotas ["thing", "total"] (sp_are_quotas K T.C) := by
  refine GL.okG (k := 2) T.F_are_quotas sc_are_quotas (fun vs H Q E h => ln_are_quotas h) (fun cdv A outer s H vs Q E hg hr h => ?_)
  exact ⟨t_are_quotas K T.C, (pss_one (ps_ret (GL.pe_callG (ok_are_counts T) hg (hr.mono (by decide)) (by rfl) T.g_are_counts T.F_are_counts.kp (bd_are_counts T) pass0 (pa_cons (pv 0) (pa_cons pe_int (pa_cons (C8.pe_gc (by rfl) (T.c_MOST_COLUMNS.elim fun t h => ⟨_, h, ⟨t, rfl⟩⟩)) (pa_cons (pv 1) pa_nil))))))), r_are_quotas T.cf h⟩
theorem ok_is_light (T : Txt K mg) : GL.FnG P w K mg base 4 T.f_is_light T.d_is_light ["councils", "sides"] (sp_is_light K T.C) := by
  refine GL.okG (k := 3) T.F_is_light sc_is_light (fun vs H Q E h => ln_is_light h) (fun cdv A outer s H vs Q E hg hr h => ?_)
  exact ⟨t_is_light K T.C, (pss_one (ps_ret (pe_not (pe_callB (kAny (K := K)) (by rfl) T.m_any bt_any (pa_cons (pe_lc (own := [("council", 2)]) (wi := (iList K (tVar 0))) (g := (gName 2)) (tt := tYes) (te := (tCall (sp_can_fill K T.C) [] E0 (tCons (tMeth T.C "weights" (sp_C_weights K T.C) [] E0 (tVar 2) tNil) (tCons (tCall (sp_allowances_of K T.C) [] E0 (tCons (tVar 2) (tCons (tVar 1) tNil))) tNil)))) (by rfl) sc_is_light.nd (pi_list (pv 0)) (blkOk_by (own := [("council", 2)]) (N := ["councils", "sides", "council"]) (sc := defScope s_is_light) (by decide +kernel)) (fun _ _ _ _ _ => (pg_name (i := 2) sc_is_light.nd (by rfl) (by first | exact .inl rfl | exact .inr rfl))) (fun _ _ _ _ _ => pts_nil) (fun _ _ _ _ _ => (GL.pe_callG (ok_can_fill T) hg (hr.mono (by decide)) (by rfl) T.g_can_fill T.F_can_fill.kp (bd_can_fill T) pass0 (pa_cons (GL.pe_meth0G (pv 2) T.cf.cl T.M_C_weights (ok_C_weights T) hg (hr.mono (by decide)) (bd_C_weights T) pass0) (pa_cons (GL.pe_callG (ok_allowances_of T) hg (hr.mono (by decide)) (by rfl) T.g_allowances_of T.F_allowances_of.kp (bd_allowances_of T) pass0 (pa_cons (pv 2) (pa_cons (pv 1) pa_nil))) pa_nil))))) pa_nil))))), r_is_light T.cf h⟩
theorem ok_C_init (T : Txt K mg) : GL.FnG P w K mg base 4 T.f_C_init T.d_C_init ["self", "weights", "quotas"] (sp_C_init K T.C) := by
  refine GL.okG (k := 3) T.F_C_init sc_C_init (fun vs H Q E h => ln_C_init h) (fun cdv A outer s H vs Q E hg hr h => ?_)
  exact ⟨t_C_init K T.C, (pss_cons (ps_if (pt_not (pt_val (GL.pe_callG (ok_are_weights T) hg (hr.mono (by decide)) (by rfl) T.g_are_weights T.F_are_weights.kp (bd_are_weights T) pass0 (pa_cons (pv 1) pa_nil))))
    (pss_one ps_never)
    pss_nil)
    (pss_cons (ps_if (pt_not (pt_val (GL.pe_callG (ok_are_quotas T) hg (hr.mono (by decide)) (by rfl) T.g_are_quotas T.F_are_quotas.kp (bd_are_quotas T) pass0 (pa_cons (pv 2) (pa_cons (pe_callB (kSum (K := K)) (by rfl) T.m_sum bt_sum (pa_cons (pv 1) pa_nil)) pa_nil)))))
    (pss_one ps_never)
    pss_nil)
    (pss_cons (ps_fld (pv 0) (pe_callTy (kList (K := K)) (by rfl) T.m_list bt_list (pa_cons (pv 1) pa_nil)) rfl)
    (pss_one (ps_fld (pv 0) (pe_callTy (kList (K := K)) (by rfl) T.m_list bt_list (pa_cons (pv 2) pa_nil)) rfl))))), r_C_init T.cf h⟩
theorem ok_law_made (T : Txt K mg) : GL.FnG P w K mg base 6 T.f_law_made T.d_law_made ["parts"] (sp_law_made K T.C) := by
  refine GL.okG (k := 5) T.F_law_made sc_law_made (fun vs H Q E h => ln_law_made h) (fun cdv A outer s H vs Q E hg hr h => ?_)
  exact ⟨t_law_made K T.C, (pss_one (ps_ret (GL.pe_makeG T.MK (ok_C_init T) hg (hr.mono (by decide)) (by rfl) T.mgC (bd_C_init T) pass0 (pa_cons (pe_callTy (kList (K := K)) (by rfl) T.m_list bt_list (pa_cons (pe_ix (kIx (K := K)) (pv 0) pe_int (fun _ _ => rfl)) pa_nil)) (pa_cons (pe_callTy (kList (K := K)) (by rfl) T.m_list bt_list (pa_cons (pe_ix (kIx (K := K)) (pv 0) pe_int (fun _ _ => rfl)) pa_nil)) pa_nil))))), r_law_made T.cf h⟩
theorem ok_law (T : Txt K mg) : GL.FnG P w K mg base 7 T.f_law T.d_law ["script"] (sp_law K T.C) := by
  refine GL.okG (k := 6) T.F_law sc_law (fun vs H Q E h => ln_law h) (fun cdv A outer s H vs Q E hg hr h => ?_)
  exact ⟨t_law K T.C, (pss_cons (ps_set (i := 1) sc_law.nd (by rfl) (by first | exact .inl rfl | exact .inr rfl) (GL.pe_callG (ok_law_bag T) hg (hr.mono (by decide)) (by rfl) T.g_law_bag T.F_law_bag.kp (bd_law_bag T) pass0 (pa_cons (pv 0) pa_nil)))
    (pss_cons (ps_for PassesOwn.never (by rfl) (pi_range1 (by rfl) T.m_range (pa_cons pe_int pa_nil)) (pg_name (i := 2) sc_law.nd (by rfl) (by first | exact .inl rfl | exact .inr rfl))
    (pss_cons (ps_set (i := 3) sc_law.nd (by rfl) (by first | exact .inl rfl | exact .inr rfl) (pe_op op_add pe_int (GL.pe_callG (ok_law_take T) hg (hr.mono (by decide)) (by rfl) T.g_law_take T.F_law_take.kp (bd_law_take T) pass0 (pa_cons (pv 1) (pa_cons pe_int pa_nil)))))
    (pss_cons (ps_setLc (i := 4) (own := [("one", 13)]) (wi := (iRng1 (tCons (tCall (sp_law_take K T.C) [] E0 (tCons (tVar 1) (tCons (tC (.int 6)) tNil))) tNil))) (g := (gName 13)) (tt := tYes) (te := (tCall (sp_law_council K T.C) [] E0 (tCons (tVar 1) (tCons (tVar 3) (tCons (tC (.int 7)) tNil))))) (by rfl) sc_law.nd (by rfl) (by rfl) (sw_true (by rfl) (by rfl) (by rfl) (by decide +kernel)) (pi_range1 (by rfl) T.m_range (pa_cons (GL.pe_callG (ok_law_take T) hg (hr.mono (by decide)) (by rfl) T.g_law_take T.F_law_take.kp (bd_law_take T) pass0 (pa_cons (pv 1) (pa_cons pe_int pa_nil))) pa_nil)) (blkOk_by (own := [("one", 13)]) (N := ["script", "bag", "k", "width", "plans", "councils", "sides", "due", "handed", "again", "others", "beside", "each", "one", "parts", "council"]) (sc := defScope s_law) (by decide +kernel)) (fun _ _ _ _ _ => (pg_name (i := 13) sc_law.nd (by rfl) (by first | exact .inl rfl | exact .inr rfl))) (fun _ _ _ _ _ => pts_nil) (fun _ _ _ _ _ => (GL.pe_callG (ok_law_council T) hg (hr.mono (by decide)) (by rfl) T.g_law_council T.F_law_council.kp (bd_law_council T) pass0 (pa_cons (pv 1) (pa_cons (pv 3) (pa_cons pe_int pa_nil))))))
    (pss_cons (ps_setLc (i := 5) (own := [("parts", 14)]) (wi := (iList K (tVar 4))) (g := (gName 14)) (tt := tYes) (te := (tCall (sp_law_made K T.C) [] E0 (tCons (tVar 14) tNil))) (by rfl) sc_law.nd (by rfl) (by rfl) (sw_true (by rfl) (by rfl) (by rfl) (by decide +kernel)) (pi_list (pv 4)) (blkOk_by (own := [("parts", 14)]) (N := ["script", "bag", "k", "width", "plans", "councils", "sides", "due", "handed", "again", "others", "beside", "each", "one", "parts", "council"]) (sc := defScope s_law) (by decide +kernel)) (fun _ _ _ _ _ => (pg_name (i := 14) sc_law.nd (by rfl) (by first | exact .inl rfl | exact .inr rfl))) (fun _ _ _ _ _ => pts_nil) (fun _ _ _ _ _ => (GL.pe_callG (ok_law_made T) hg (hr.mono (by decide)) (by rfl) T.g_law_made T.F_law_made.kp (bd_law_made T) pass0 (pa_cons (pv 14) pa_nil))))
    (pss_cons (ps_set (i := 6) sc_law.nd (by rfl) (by first | exact .inl rfl | exact .inr rfl) (GL.pe_callG (ok_law_sides T) hg (hr.mono (by decide)) (by rfl) T.g_law_sides T.F_law_sides.kp (bd_law_sides T) pass0 (pa_cons (pv 1) (pa_cons (pv 3) (pa_cons (pe_ix (kIx (K := K)) (pe_lst (pa_cons pe_int (pa_cons pe_int (pa_cons pe_int (pa_cons pe_int pa_nil))))) (GL.pe_callG (ok_law_take T) hg (hr.mono (by decide)) (by rfl) T.g_law_take T.F_law_take.kp (bd_law_take T) pass0 (pa_cons (pv 1) (pa_cons pe_int pa_nil))) (fun _ _ => rfl)) pa_nil)))))
    (pss_cons (ps_set (i := 7) sc_law.nd (by rfl) (by first | exact .inl rfl | exact .inr rfl) (GL.pe_callG (ok_law_light T) hg (hr.mono (by decide)) (by rfl) T.g_law_light T.F_law_light.kp (bd_law_light T) pass0 (pa_cons (pv 4) (pa_cons (pv 6) pa_nil))))
    (pss_cons (ps_set (i := 8) sc_law.nd (by rfl) (by first | exact .inl rfl | exact .inr rfl) (pe_tup (pa_cons (pe_callTy (kList (K := K)) (by rfl) T.m_list bt_list (pa_cons (pv 5) pa_nil)) (pa_cons (pe_callTy (kList (K := K)) (by rfl) T.m_list bt_list (pa_cons (pv 6) pa_nil)) pa_nil))))
    (pss_cons (ps_for PassesOwn.never (by rfl) (pi_range1 (by rfl) T.m_range (pa_cons pe_int pa_nil)) (pg_name (i := 9) sc_law.nd (by rfl) (by first | exact .inl rfl | exact .inr rfl))
    (pss_one (ps_if (PW.pt (pw_or (pt_not (pt_val (GL.pe_callG (ok_law_alike T) hg (hr.mono (by decide)) (by rfl) T.g_law_alike T.F_law_alike.kp (bd_law_alike T) pass0 (pa_cons (GL.pe_callG (ok_is_light T) hg (hr.mono (by decide)) (by rfl) T.g_is_light T.F_is_light.kp (bd_is_light T) pass0 (pa_cons (pe_ix (kIx (K := K)) (pv 8) pe_int (fun _ _ => rfl)) (pa_cons (pe_ix (kIx (K := K)) (pv 8) pe_int (fun _ _ => rfl)) pa_nil))) (pa_cons (pv 7) pa_nil))))) (pw_or1 (pt_cmpR (kNeT (K := K) (room100 hr)) (pv 8) (pe_tup (pa_cons (pv 5) (pa_cons (pv 6) pa_nil))) (nomark _)))))
    (pss_one (ps_ret pe_bl))
    pss_nil)))
    (pss_cons (ps_set (i := 10) sc_law.nd (by rfl) (by first | exact .inl rfl | exact .inr rfl) (pe_op op_cat (pe_slice (kSl (K := K)) (pv 4) po_none (po_some pe_int)) (pe_lc (own := [("parts", 14)]) (wi := (iList K (tSl (rSl K) (tVar 4) (tPart (tC (.int 1))) tNoPart))) (g := (gName 14)) (tt := tYes) (te := (tCall (sp_law_council K T.C) [] E0 (tCons (tVar 1) (tCons (tVar 3) (tCons (tC (.int 7)) tNil))))) (by rfl) sc_law.nd (pi_list (pe_slice (kSl (K := K)) (pv 4) (po_some pe_int) po_none)) (blkOk_by (own := [("parts", 14)]) (N := ["script", "bag", "k", "width", "plans", "councils", "sides", "due", "handed", "again", "others", "beside", "each", "one", "parts", "council"]) (sc := defScope s_law) (by decide +kernel)) (fun _ _ _ _ _ => (pg_name (i := 14) sc_law.nd (by rfl) (by first | exact .inl rfl | exact .inr rfl))) (fun _ _ _ _ _ => pts_nil) (fun _ _ _ _ _ => (GL.pe_callG (ok_law_council T) hg (hr.mono (by decide)) (by rfl) T.g_law_council T.F_law_council.kp (bd_law_council T) pass0 (pa_cons (pv 1) (pa_cons (pv 3) (pa_cons pe_int pa_nil))))))))
    (pss_cons (ps_set (i := 11) sc_law.nd (by rfl) (by first | exact .inl rfl | exact .inr rfl) (pe_op op_cat (pe_slice (kSl (K := K)) (pv 5) po_none (po_some pe_int)) (pe_lc (own := [("parts", 14)]) (wi := (iList K (tSl (rSl K) (tVar 10) (tPart (tC (.int 1))) tNoPart))) (g := (gName 14)) (tt := tYes) (te := (tCall (sp_law_made K T.C) [] E0 (tCons (tVar 14) tNil))) (by rfl) sc_law.nd (pi_list (pe_slice (kSl (K := K)) (pv 10) (po_some pe_int) po_none)) (blkOk_by (own := [("parts", 14)]) (N := ["script", "bag", "k", "width", "plans", "councils", "sides", "due", "handed", "again", "others", "beside", "each", "one", "parts", "council"]) (sc := defScope s_law) (by decide +kernel)) (fun _ _ _ _ _ => (pg_name (i := 14) sc_law.nd (by rfl) (by first | exact .inl rfl | exact .inr rfl))) (fun _ _ _ _ _ => pts_nil) (fun _ _ _ _ _ => (GL.pe_callG (ok_law_made T) hg (hr.mono (by decide)) (by rfl) T.g_law_made T.F_law_made.kp (bd_law_made T) pass0 (pa_cons (pv 14) pa_nil))))))
    (pss_cons (ps_if (PW.pt (pw_or (pt_cmpR (kNe (K := K) (room100 hr)) (GL.pe_callG (ok_is_light T) hg (hr.mono (by decide)) (by rfl) T.g_is_light T.F_is_light.kp (bd_is_light T) pass0 (pa_cons (pv 11) (pa_cons (pv 6) pa_nil))) (GL.pe_callG (ok_law_light T) hg (hr.mono (by decide)) (by rfl) T.g_law_light T.F_law_light.kp (bd_law_light T) pass0 (pa_cons (pv 10) (pa_cons (pv 6) pa_nil))) (nomark _)) (pw_or1 (pt_cmpR (kNe (K := K) (room100 hr)) (GL.pe_callG (ok_is_light T) hg (hr.mono (by decide)) (by rfl) T.g_is_light T.F_is_light.kp (bd_is_light T) pass0 (pa_cons (pv 5) (pa_cons (pv 6) pa_nil))) (pv 7) (nomark _)))))
    (pss_one (ps_ret pe_bl))
    pss_nil)
    (pss_cons (ps_if (pt_cmpR (kNeL (K := K) (room100 hr)) (pe_lc (own := [("one", 13)]) (wi := (iList K (tVar 5))) (g := (gName 13)) (tt := tYes) (te := (tCB (GL.rReprI T.C (sp_C_repr K T.C) E0) (tCons (tVar 13) tNil))) (by rfl) sc_law.nd (pi_list (pv 5)) (blkOk_by (own := [("one", 13)]) (N := ["script", "bag", "k", "width", "plans", "councils", "sides", "due", "handed", "again", "others", "beside", "each", "one", "parts", "council"]) (sc := defScope s_law) (by decide +kernel)) (fun _ _ _ _ _ => (pg_name (i := 13) sc_law.nd (by rfl) (by first | exact .inl rfl | exact .inr rfl))) (fun _ _ _ _ _ => pts_nil) (fun _ _ _ _ _ => (pe_callB (GL.call_reprI (ok_C_repr T) hg (hr.mono (by decide)) (bd_C_repr T) pass0 T.M_C_repr) (by rfl) T.m_repr bt_repr (pa_cons (pv 13) pa_nil)))) (pe_lc (own := [("parts", 14)]) (wi := (iList K (tVar 4))) (g := (gName 14)) (tt := tYes) (te := (tCB (GL.rReprI T.C (sp_C_repr K T.C) E0) (tCons (tCall (sp_law_made K T.C) [] E0 (tCons (tVar 14) tNil)) tNil))) (by rfl) sc_law.nd (pi_list (pv 4)) (blkOk_by (own := [("parts", 14)]) (N := ["script", "bag", "k", "width", "plans", "councils", "sides", "due", "handed", "again", "others", "beside", "each", "one", "parts", "council"]) (sc := defScope s_law) (by decide +kernel)) (fun _ _ _ _ _ => (pg_name (i := 14) sc_law.nd (by rfl) (by first | exact .inl rfl | exact .inr rfl))) (fun _ _ _ _ _ => pts_nil) (fun _ _ _ _ _ => (pe_callB (GL.call_reprI (ok_C_repr T) hg (hr.mono (by decide)) (bd_C_repr T) pass0 T.M_C_repr) (by rfl) T.m_repr bt_repr (pa_cons (GL.pe_callG (ok_law_made T) hg (hr.mono (by decide)) (by rfl) T.g_law_made T.F_law_made.kp (bd_law_made T) pass0 (pa_cons (pv 14) pa_nil)) pa_nil)))) (nomark _))
    (pss_one (ps_ret pe_bl))
    pss_nil)
    (pss_cons (ps_if (PW.pt (pw_or (pt_cmpR (kNe (K := K) (room100 hr)) (GL.pe_callG (ok_is_light T) hg (hr.mono (by decide)) (by rfl) T.g_is_light T.F_is_light.kp (bd_is_light T) pass0 (pa_cons (DL.pe_revK (K := K) (pv 5)) (pa_cons (DL.pe_revK (K := K) (pv 6)) pa_nil))) (pv 7) (nomark _)) (pw_or1 (pt_cmpR (kNe (K := K) (room100 hr)) (GL.pe_callG (ok_is_light T) hg (hr.mono (by decide)) (by rfl) T.g_is_light T.F_is_light.kp (bd_is_light T) pass0 (pa_cons (pe_slice (kSl (K := K)) (pe_op op_cat (pv 5) (pe_slice (kSl (K := K)) (pv 5) po_none (po_some pe_int))) po_none (po_some pe_int)) (pa_cons (pv 6) pa_nil))) (pv 7) (nomark _)))))
    (pss_one (ps_ret pe_bl))
    pss_nil)
    (pss_cons (ps_setLc (i := 12) (own := [("council", 15)]) (wi := (iList K (tVar 5))) (g := (gName 15)) (tt := tYes) (te := (tCall (sp_is_light K T.C) [] E0 (tCons (tLst (tCons (tVar 15) tNil)) (tCons (tVar 6) tNil)))) (by rfl) sc_law.nd (by rfl) (by rfl) (sw_true (by rfl) (by rfl) (by rfl) (by decide +kernel)) (pi_list (pv 5)) (blkOk_by (own := [("council", 15)]) (N := ["script", "bag", "k", "width", "plans", "councils", "sides", "due", "handed", "again", "others", "beside", "each", "one", "parts", "council"]) (sc := defScope s_law) (by decide +kernel)) (fun _ _ _ _ _ => (pg_name (i := 15) sc_law.nd (by rfl) (by first | exact .inl rfl | exact .inr rfl))) (fun _ _ _ _ _ => pts_nil) (fun _ _ _ _ _ => (GL.pe_callG (ok_is_light T) hg (hr.mono (by decide)) (by rfl) T.g_is_light T.F_is_light.kp (bd_is_light T) pass0 (pa_cons (pe_lst (pa_cons (pv 15) pa_nil)) (pa_cons (pv 6) pa_nil)))))
    (pss_cons (ps_if (PW.pt (pw_or (pt_cmpR (kNe (K := K) (room100 hr)) (pe_callB (kAll (K := K)) (by rfl) T.m_all bt_all (pa_cons (pv 12) pa_nil)) (pv 7) (nomark _)) (pw_or (pt_cmpR op_notBl (GL.pe_callG (ok_is_light T) hg (hr.mono (by decide)) (by rfl) T.g_is_light T.F_is_light.kp (bd_is_light T) pass0 (pa_cons (pe_lst pa_nil) (pa_cons (pv 6) pa_nil))) pe_bl (nomark _)) (pw_or1 (pt_cmpR op_notBl (GL.pe_callG (ok_is_light T) hg (hr.mono (by decide)) (by rfl) T.g_is_light T.F_is_light.kp (bd_is_light T) pass0 (pa_cons (pv 5) (pa_cons (pe_lst pa_nil) pa_nil))) pe_bl (nomark _))))))
    (pss_one (ps_ret pe_bl))
    pss_nil)
    (pss_one (ps_if (pt_cmpR (kNe (K := K) (room100 hr)) (pv 12) (pe_lc (own := [("parts", 14)]) (wi := (iList K (tVar 4))) (g := (gName 14)) (tt := tYes) (te := (tCall (sp_law_light K T.C) [] E0 (tCons (tLst (tCons (tVar 14) tNil)) (tCons (tVar 6) tNil)))) (by rfl) sc_law.nd (pi_list (pv 4)) (blkOk_by (own := [("parts", 14)]) (N := ["script", "bag", "k", "width", "plans", "councils", "sides", "due", "handed", "again", "others", "beside", "each", "one", "parts", "council"]) (sc := defScope s_law) (by decide +kernel)) (fun _ _ _ _ _ => (pg_name (i := 14) sc_law.nd (by rfl) (by first | exact .inl rfl | exact .inr rfl))) (fun _ _ _ _ _ => pts_nil) (fun _ _ _ _ _ => (GL.pe_callG (ok_law_light T) hg (hr.mono (by decide)) (by rfl) T.g_law_light T.F_law_light.kp (bd_law_light T) pass0 (pa_cons (pe_lst (pa_cons (pv 14) pa_nil)) (pa_cons (pv 6) pa_nil))))) (nomark _))
    (pss_one (ps_ret pe_bl))
    pss_nil)))))))))))))))))
    (pss_one (ps_ret pe_bl)))), r_law T.cf h⟩
end
theorem all_mk {l : PySem.W.OpenLaw} {w : World} {K : PySem.W.Frag} {h : Heap} {mg : Str → Option Value} {fa C f0 f1 f2 f3 f4 f5 f6 f7 f8 f9 f10 f11 f12 f13 f14 f15 f16 f17 f18 f19 f20 f21 f22 f23 f24 f25 : Addr} (X : K.In h) (G : h.Ns mainGlobals mg) (hfa : mg "law" = some (.ref fa))
    {od0 an0 od1 an1 od2 an2 od3 an3 od4 an4 od5 an5 od6 an6 od7 an7 od8 an8 od9 an9 od10 an10 od11 an11 od12 an12 od13 an13 od14 an14 od15 an15 od16 an16 od17 an17 od18 an18 od19 an19 od20 an20 od21 an21 od22 an22 od23 an23 od24 an24 od25 an25 : Option Addr} {sl0 sl1 sl2 sl3 sl4 sl5 sl6 sl7 sl8 sl9 sl10 sl11 sl12 sl13 sl14 sl15 sl16 sl17 sl18 sl19 sl20 sl21 sl22 sl23 sl24 sl25 : Array (Option Value)} {oc0 kV0 dc0 pm0 cd0 ct0 oc1 kV1 dc1 pm1 cd1 ct1 oc2 kV2 dc2 pm2 cd2 ct2 oc3 kV3 dc3 pm3 cd3 ct3 oc4 kV4 dc4 pm4 cd4 ct4 oc5 kV5 dc5 pm5 cd5 ct5 oc6 kV6 dc6 pm6 cd6 ct6 oc7 kV7 dc7 pm7 cd7 ct7 oc8 kV8 dc8 pm8 cd8 ct8 oc9 kV9 dc9 pm9 cd9 ct9 oc10 kV10 dc10 pm10 cd10 ct10 oc11 kV11 dc11 pm11 cd11 ct11 oc12 kV12 dc12 pm12 cd12 ct12 oc13 kV13 dc13 pm13 cd13 ct13 oc14 kV14 dc14 pm14 cd14 ct14 oc15 kV15 dc15 pm15 cd15 ct15 oc16 kV16 dc16 pm16 cd16 ct16 oc17 kV17 dc17 pm17 cd17 ct17 oc18 kV18 dc18 pm18 cd18 ct18 oc19 kV19 dc19 pm19 cd19 ct19 oc20 kV20 dc20 pm20 cd20 ct20 oc21 kV21 dc21 pm21 cd21 ct21 oc22 kV22 dc22 pm22 cd22 ct22 oc23 kV23 dc23 pm23 cd23 ct23 oc24 kV24 dc24 pm24 cd24 ct24 oc25 kV25 dc25 pm25 cd25 ct25 : Value}
    {tk0 tk1 tk2 tk3 : Tok}
    (aC : PySem.W.nsIn K mainGlobals "Council" = some (some (.ref C)))
    (a0 : PySem.W.nsIn K mainGlobals "allowances_of" = some (some (.ref f0)))
    (l0 : K.lookup f0 = some ⟨oc0, od0, .func (PySem.W.fnOf "allowances_of" "allowances_of" (defArgs s_allowances_of) (defBody s_allowances_of) (defScope s_allowances_of) .none kV0 dc0 pm0 an0 cd0 ct0), sl0⟩) (c0 : PySem.W.codeIn K cd0 "allowances_of" = true) (k0 : PySem.W.keepIn K (.ref f0) = true)
    (a1 : PySem.W.nsIn K mainGlobals "can_fill" = some (some (.ref f1)))
    (l1 : K.lookup f1 = some ⟨oc1, od1, .func (PySem.W.fnOf "can_fill" "can_fill" (defArgs s_can_fill) (defBody s_can_fill) (defScope s_can_fill) .none kV1 dc1 pm1 an1 cd1 ct1), sl1⟩) (c1 : PySem.W.codeIn K cd1 "can_fill" = true) (k1 : PySem.W.keepIn K (.ref f1) = true)
    (a2 : PySem.W.nsIn K mainGlobals "_all_seats" = some (some (.ref f2)))
    (l2 : K.lookup f2 = some ⟨oc2, od2, .func (PySem.W.fnOf "_all_seats" "_all_seats" (defArgs s_all_seats) (defBody s_all_seats) (defScope s_all_seats) .none kV2 dc2 pm2 an2 cd2 ct2), sl2⟩) (c2 : PySem.W.codeIn K cd2 "_all_seats" = true) (k2 : PySem.W.keepIn K (.ref f2) = true)
    (a3 : PySem.W.nsIn K mainGlobals "_holds_all" = some (some (.ref f3)))
    (l3 : K.lookup f3 = some ⟨oc3, od3, .func (PySem.W.fnOf "_holds_all" "_holds_all" (defArgs s_holds_all) (defBody s_holds_all) (defScope s_holds_all) .none kV3 dc3 pm3 an3 cd3 ct3), sl3⟩) (c3 : PySem.W.codeIn K cd3 "_holds_all" = true) (k3 : PySem.W.keepIn K (.ref f3) = true)
    (a4 : PySem.W.nsIn K mainGlobals "_fitting_groups" = some (some (.ref f4)))
    (l4 : K.lookup f4 = some ⟨oc4, od4, .func (PySem.W.fnOf "_fitting_groups" "_fitting_groups" (defArgs s_fitting_groups) (defBody s_fitting_groups) (defScope s_fitting_groups) .none kV4 dc4 pm4 an4 cd4 ct4), sl4⟩) (c4 : PySem.W.codeIn K cd4 "_fitting_groups" = true) (k4 : PySem.W.keepIn K (.ref f4) = true)
    (a5 : PySem.W.nsIn K mainGlobals "_grown" = some (some (.ref f5)))
    (l5 : K.lookup f5 = some ⟨oc5, od5, .func (PySem.W.fnOf "_grown" "_grown" (defArgs s_grown) (defBody s_grown) (defScope s_grown) .none kV5 dc5 pm5 an5 cd5 ct5), sl5⟩) (c5 : PySem.W.codeIn K cd5 "_grown" = true) (k5 : PySem.W.keepIn K (.ref f5) = true)
    (a6 : PySem.W.nsIn K mainGlobals "is_integer" = some (some (.ref f6)))
    (l6 : K.lookup f6 = some ⟨oc6, od6, .func (PySem.W.fnOf "is_integer" "is_integer" (defArgs s_is_integer) (defBody s_is_integer) (defScope s_is_integer) .none kV6 dc6 pm6 an6 cd6 ct6), sl6⟩) (c6 : PySem.W.codeIn K cd6 "is_integer" = true) (k6 : PySem.W.keepIn K (.ref f6) = true)
    (a7 : PySem.W.nsIn K mainGlobals "is_light" = some (some (.ref f7)))
    (l7 : K.lookup f7 = some ⟨oc7, od7, .func (PySem.W.fnOf "is_light" "is_light" (defArgs s_is_light) (defBody s_is_light) (defScope s_is_light) .none kV7 dc7 pm7 an7 cd7 ct7), sl7⟩) (c7 : PySem.W.codeIn K cd7 "is_light" = true) (k7 : PySem.W.keepIn K (.ref f7) = true)
    (a8 : PySem.W.findIn K (.ref C) "__init__" = some (some (.ref f8))) (i8 : PySem.W.isFn K (.ref f8) = true)
    (l8 : K.lookup f8 = some ⟨oc8, od8, .func (PySem.W.fnOf "__init__" "Council.__init__" (defArgs s_C_init) (defBody s_C_init) (defScope s_C_init) .none kV8 dc8 pm8 an8 cd8 ct8), sl8⟩) (c8 : PySem.W.codeIn K cd8 "Council.__init__" = true) (k8 : PySem.W.keepIn K (.ref f8) = true)
    (a9 : PySem.W.findIn K (.ref C) "__repr__" = some (some (.ref f9))) (i9 : PySem.W.isFn K (.ref f9) = true)
    (l9 : K.lookup f9 = some ⟨oc9, od9, .func (PySem.W.fnOf "__repr__" "Council.__repr__" (defArgs s_C_repr) (defBody s_C_repr) (defScope s_C_repr) .none kV9 dc9 pm9 an9 cd9 ct9), sl9⟩) (c9 : PySem.W.codeIn K cd9 "Council.__repr__" = true) (k9 : PySem.W.keepIn K (.ref f9) = true)
    (a10 : PySem.W.findIn K (.ref C) "weights" = some (some (.ref f10))) (i10 : PySem.W.isFn K (.ref f10) = true)
    (l10 : K.lookup f10 = some ⟨oc10, od10, .func (PySem.W.fnOf "weights" "Council.weights" (defArgs s_C_weights) (defBody s_C_weights) (defScope s_C_weights) .none kV10 dc10 pm10 an10 cd10 ct10), sl10⟩) (c10 : PySem.W.codeIn K cd10 "Council.weights" = true) (k10 : PySem.W.keepIn K (.ref f10) = true)
    (a11 : PySem.W.findIn K (.ref C) "total" = some (some (.ref f11))) (i11 : PySem.W.isFn K (.ref f11) = true)
    (l11 : K.lookup f11 = some ⟨oc11, od11, .func (PySem.W.fnOf "total" "Council.total" (defArgs s_C_total) (defBody s_C_total) (defScope s_C_total) .none kV11 dc11 pm11 an11 cd11 ct11), sl11⟩) (c11 : PySem.W.codeIn K cd11 "Council.total" = true) (k11 : PySem.W.keepIn K (.ref f11) = true)
    (a12 : PySem.W.findIn K (.ref C) "allowance" = some (some (.ref f12))) (i12 : PySem.W.isFn K (.ref f12) = true)
    (l12 : K.lookup f12 = some ⟨oc12, od12, .func (PySem.W.fnOf "allowance" "Council.allowance" (defArgs s_C_allowance) (defBody s_C_allowance) (defScope s_C_allowance) .none kV12 dc12 pm12 an12 cd12 ct12), sl12⟩) (c12 : PySem.W.codeIn K cd12 "Council.allowance" = true) (k12 : PySem.W.keepIn K (.ref f12) = true)
    (a13 : PySem.W.nsIn K mainGlobals "_are_weights" = some (some (.ref f13)))
    (l13 : K.lookup f13 = some ⟨oc13, od13, .func (PySem.W.fnOf "_are_weights" "_are_weights" (defArgs s_are_weights) (defBody s_are_weights) (defScope s_are_weights) .none kV13 dc13 pm13 an13 cd13 ct13), sl13⟩) (c13 : PySem.W.codeIn K cd13 "_are_weights" = true) (k13 : PySem.W.keepIn K (.ref f13) = true)
    (a14 : PySem.W.nsIn K mainGlobals "_are_quotas" = some (some (.ref f14)))
    (l14 : K.lookup f14 = some ⟨oc14, od14, .func (PySem.W.fnOf "_are_quotas" "_are_quotas" (defArgs s_are_quotas) (defBody s_are_quotas) (defScope s_are_quotas) .none kV14 dc14 pm14 an14 cd14 ct14), sl14⟩) (c14 : PySem.W.codeIn K cd14 "_are_quotas" = true) (k14 : PySem.W.keepIn K (.ref f14) = true)
    (a15 : PySem.W.nsIn K mainGlobals "_are_counts" = some (some (.ref f15)))
    (l15 : K.lookup f15 = some ⟨oc15, od15, .func (PySem.W.fnOf "_are_counts" "_are_counts" (defArgs s_are_counts) (defBody s_are_counts) (defScope s_are_counts) .none kV15 dc15 pm15 an15 cd15 ct15), sl15⟩) (c15 : PySem.W.codeIn K cd15 "_are_counts" = true) (k15 : PySem.W.keepIn K (.ref f15) = true)
    (a16 : PySem.W.nsIn K mainGlobals "_law_bag" = some (some (.ref f16)))
    (l16 : K.lookup f16 = some ⟨oc16, od16, .func (PySem.W.fnOf "_law_bag" "_law_bag" (defArgs s_law_bag) (defBody s_law_bag) (defScope s_law_bag) .none kV16 dc16 pm16 an16 cd16 ct16), sl16⟩) (c16 : PySem.W.codeIn K cd16 "_law_bag" = true) (k16 : PySem.W.keepIn K (.ref f16) = true)
    (a17 : PySem.W.nsIn K mainGlobals "_law_take" = some (some (.ref f17)))
    (l17 : K.lookup f17 = some ⟨oc17, od17, .func (PySem.W.fnOf "_law_take" "_law_take" (defArgs s_law_take) (defBody s_law_take) (defScope s_law_take) .none kV17 dc17 pm17 an17 cd17 ct17), sl17⟩) (c17 : PySem.W.codeIn K cd17 "_law_take" = true) (k17 : PySem.W.keepIn K (.ref f17) = true)
    (a18 : PySem.W.nsIn K mainGlobals "_law_alike" = some (some (.ref f18)))
    (l18 : K.lookup f18 = some ⟨oc18, od18, .func (PySem.W.fnOf "_law_alike" "_law_alike" (defArgs s_law_alike) (defBody s_law_alike) (defScope s_law_alike) .none kV18 dc18 pm18 an18 cd18 ct18), sl18⟩) (c18 : PySem.W.codeIn K cd18 "_law_alike" = true) (k18 : PySem.W.keepIn K (.ref f18) = true)
    (a19 : PySem.W.nsIn K mainGlobals "_law_council" = some (some (.ref f19)))
    (l19 : K.lookup f19 = some ⟨oc19, od19, .func (PySem.W.fnOf "_law_council" "_law_council" (defArgs s_law_council) (defBody s_law_council) (defScope s_law_council) .none kV19 dc19 pm19 an19 cd19 ct19), sl19⟩) (c19 : PySem.W.codeIn K cd19 "_law_council" = true) (k19 : PySem.W.keepIn K (.ref f19) = true)
    (a20 : PySem.W.nsIn K mainGlobals "_law_made" = some (some (.ref f20)))
    (l20 : K.lookup f20 = some ⟨oc20, od20, .func (PySem.W.fnOf "_law_made" "_law_made" (defArgs s_law_made) (defBody s_law_made) (defScope s_law_made) .none kV20 dc20 pm20 an20 cd20 ct20), sl20⟩) (c20 : PySem.W.codeIn K cd20 "_law_made" = true) (k20 : PySem.W.keepIn K (.ref f20) = true)
    (a21 : PySem.W.nsIn K mainGlobals "_law_rooms" = some (some (.ref f21)))
    (l21 : K.lookup f21 = some ⟨oc21, od21, .func (PySem.W.fnOf "_law_rooms" "_law_rooms" (defArgs s_law_rooms) (defBody s_law_rooms) (defScope s_law_rooms) .none kV21 dc21 pm21 an21 cd21 ct21), sl21⟩) (c21 : PySem.W.codeIn K cd21 "_law_rooms" = true) (k21 : PySem.W.keepIn K (.ref f21) = true)
    (a22 : PySem.W.nsIn K mainGlobals "_law_heavy" = some (some (.ref f22)))
    (l22 : K.lookup f22 = some ⟨oc22, od22, .func (PySem.W.fnOf "_law_heavy" "_law_heavy" (defArgs s_law_heavy) (defBody s_law_heavy) (defScope s_law_heavy) .none kV22 dc22 pm22 an22 cd22 ct22), sl22⟩) (c22 : PySem.W.codeIn K cd22 "_law_heavy" = true) (k22 : PySem.W.keepIn K (.ref f22) = true)
    (a23 : PySem.W.nsIn K mainGlobals "_law_light" = some (some (.ref f23)))
    (l23 : K.lookup f23 = some ⟨oc23, od23, .func (PySem.W.fnOf "_law_light" "_law_light" (defArgs s_law_light) (defBody s_law_light) (defScope s_law_light) .none kV23 dc23 pm23 an23 cd23 ct23), sl23⟩) (c23 : PySem.W.codeIn K cd23 "_law_light" = true) (k23 : PySem.W.keepIn K (.ref f23) = true)
    (a24 : PySem.W.nsIn K mainGlobals "_law_sides" = some (some (.ref f24)))
    (l24 : K.lookup f24 = some ⟨oc24, od24, .func (PySem.W.fnOf "_law_sides" "_law_sides" (defArgs s_law_sides) (defBody s_law_sides) (defScope s_law_sides) .none kV24 dc24 pm24 an24 cd24 ct24), sl24⟩) (c24 : PySem.W.codeIn K cd24 "_law_sides" = true) (k24 : PySem.W.keepIn K (.ref f24) = true)
    (a25 : PySem.W.nsIn K mainGlobals "law" = some (some (.ref f25)))
    (l25 : K.lookup f25 = some ⟨oc25, od25, .func (PySem.W.fnOf "law" "law" (defArgs s_law) (defBody s_law) (defScope s_law) .none kV25 dc25 pm25 an25 cd25 ct25), sl25⟩) (c25 : PySem.W.codeIn K cd25 "law" = true) (k25 : PySem.W.keepIn K (.ref f25) = true)
    (z0 : PySem.W.nsIn K mainGlobals "abs" = some none)
    (z1 : PySem.W.nsIn K mainGlobals "all" = some none)
    (z2 : PySem.W.nsIn K mainGlobals "any" = some none)
    (z3 : PySem.W.nsIn K mainGlobals "bool" = some none)
    (z4 : PySem.W.nsIn K mainGlobals "enumerate" = some none)
    (z5 : PySem.W.nsIn K mainGlobals "int" = some none)
    (z6 : PySem.W.nsIn K mainGlobals "isinstance" = some none)
    (z7 : PySem.W.nsIn K mainGlobals "len" = some none)
    (z8 : PySem.W.nsIn K mainGlobals "list" = some none)
    (z9 : PySem.W.nsIn K mainGlobals "max" = some none)
    (z10 : PySem.W.nsIn K mainGlobals "range" = some none)
    (z11 : PySem.W.nsIn K mainGlobals "repr" = some none)
    (z12 : PySem.W.nsIn K mainGlobals "sorted" = some none)
    (z13 : PySem.W.nsIn K mainGlobals "sum" = some none)
    (z14 : PySem.W.nsIn K mainGlobals "tuple" = some none)
    (u0 : PySem.W.nsIn K mainGlobals "FEWEST_SEATS" = some (some (.int 2 tk0)))
    (u1 : PySem.W.nsIn K mainGlobals "GREATEST_WEIGHT" = some (some (.int 1000000 tk1)))
    (u2 : PySem.W.nsIn K mainGlobals "MOST_COLUMNS" = some (some (.int 6 tk2)))
    (u3 : PySem.W.nsIn K mainGlobals "MOST_SEATS" = some (some (.int 7 tk3)))
    (pg : PySem.W.plainGet K C Str.empty = true) (hd : PySem.W.hasDictIn K C = true) (po : PySem.W.plainOver K C = true) (sa : PySem.W.findIn K (.ref C) "__setattr__" = some (some (.builtin "object.__setattr__"))) (mk : PySem.W.makesIn K C = true) (kc : PySem.W.keepIn K (.ref C) = true)
    (nW : PySem.W.findIn K (.ref C) "_weights" = some none) (nQ : PySem.W.findIn K (.ref C) "_quotas" = some none)
    : ∃ (fd : FuncData) (C : Addr), (∀ (s : Shared) (v : Value), BindsTo s fd ⟨[v], []⟩ [("script", v)]) ∧ ∀ base : Heap, K.In base → base.Ns mainGlobals mg → GL.FnG l.prog w K mg base 7 fa fd ["script"] (sp_law K C) := by
  have e := hfa.symm.trans (PySem.W.mg_of X G a25)
  cases e
  exact ⟨_, C, fun s v => .of_eq rfl, fun base _ _ => ok_law (⟨C, _, _, fun_mk l0 c0 k0, PySem.W.mg_of X G a0, _, _, fun_mk l1 c1 k1, PySem.W.mg_of X G a1, _, _, fun_mk l2 c2 k2, PySem.W.mg_of X G a2, _, _, fun_mk l3 c3 k3, PySem.W.mg_of X G a3, _, _, fun_mk l4 c4 k4, PySem.W.mg_of X G a4, _, _, fun_mk l5 c5 k5, PySem.W.mg_of X G a5, _, _, fun_mk l6 c6 k6, PySem.W.mg_of X G a6, _, _, fun_mk l7 c7 k7, PySem.W.mg_of X G a7, _, _, fun_mk l8 c8 k8, ⟨mk, a8, i8, kc⟩, _, _, fun_mk l9 c9 k9, ⟨a9, i9, k9⟩, _, _, fun_mk l10 c10 k10, ⟨a10, i10, k10⟩, _, _, fun_mk l11 c11 k11, ⟨a11, i11, k11⟩, _, _, fun_mk l12 c12 k12, ⟨a12, i12, k12⟩, _, _, fun_mk l13 c13 k13, PySem.W.mg_of X G a13, _, _, fun_mk l14 c14 k14, PySem.W.mg_of X G a14, _, _, fun_mk l15 c15 k15, PySem.W.mg_of X G a15, _, _, fun_mk l16 c16 k16, PySem.W.mg_of X G a16, _, _, fun_mk l17 c17 k17, PySem.W.mg_of X G a17, _, _, fun_mk l18 c18 k18, PySem.W.mg_of X G a18, _, _, fun_mk l19 c19 k19, PySem.W.mg_of X G a19, _, _, fun_mk l20 c20 k20, PySem.W.mg_of X G a20, _, _, fun_mk l21 c21 k21, PySem.W.mg_of X G a21, _, _, fun_mk l22 c22 k22, PySem.W.mg_of X G a22, _, _, fun_mk l23 c23 k23, PySem.W.mg_of X G a23, _, _, fun_mk l24 c24 k24, PySem.W.mg_of X G a24, _, _, fun_mk l25 c25 k25, PySem.W.mg_of X G a25, PySem.W.mg_none_of X G z0, PySem.W.mg_none_of X G z1, PySem.W.mg_none_of X G z2, PySem.W.mg_none_of X G z3, PySem.W.mg_none_of X G z4, PySem.W.mg_none_of X G z5, PySem.W.mg_none_of X G z6, PySem.W.mg_none_of X G z7, PySem.W.mg_none_of X G z8, PySem.W.mg_none_of X G z9, PySem.W.mg_none_of X G z10, PySem.W.mg_none_of X G z11, PySem.W.mg_none_of X G z12, PySem.W.mg_none_of X G z13, PySem.W.mg_none_of X G z14, ⟨_, PySem.W.mg_of X G u0⟩, ⟨_, PySem.W.mg_of X G u1⟩, ⟨_, PySem.W.mg_of X G u2⟩, ⟨_, PySem.W.mg_of X G u3⟩, ⟨⟨pg, hd, po, sa⟩, nW, nQ⟩, PySem.W.mg_of X G aC⟩ : Txt K mg)⟩
end PK
open PySem PySem.W PyProof.Rows
set_option maxHeartbeats 0 in
theorem PySem.Challenge.cw_packedseats_k34_light_for_several_holds : PySem.Challenge.rw_packedseats_k34_light_for_several.Holds := by
  w_on; o_law; k_head; (case hw => w_witness2)
  k_fill
  refine GL.walkG (l := PySem.Challenge.rw_packedseats_k34_light_for_several) (n := 63) (k := 7) (x := "script") (sp := fun w => DL.spLaw _) rfl (by decide) rfl ⟨rfl, by decide, by decide⟩ (fun w h Y => PySem.W.kIn_of Y) ?F (fun w H a ns hl hb _ hS => ⟨a, ns, rfl, hS, hl, fun _ => rfl⟩)
  case F =>
    intro w mg fa h KX G hmg
    suffices h : ∃ (fd : FuncData) (C : Addr), _ ∧ _ from (let ⟨fd, _, h1, h2⟩ := h; ⟨fd, h1, h2⟩)
    refine' PK.all_mk KX G hmg ?aC ?a0 ?l0 ?c0 ?k0 ?a1 ?l1 ?c1 ?k1 ?a2 ?l2 ?c2 ?k2 ?a3 ?l3 ?c3 ?k3 ?a4 ?l4 ?c4 ?k4 ?a5 ?l5 ?c5 ?k5 ?a6 ?l6 ?c6 ?k6 ?a7 ?l7 ?c7 ?k7 ?a8 ?i8 ?l8 ?c8 ?k8 ?a9 ?i9 ?l9 ?c9 ?k9 ?a10 ?i10 ?l10 ?c10 ?k10 ?a11 ?i11 ?l11 ?c11 ?k11 ?a12 ?i12 ?l12 ?c12 ?k12 ?a13 ?l13 ?c13 ?k13 ?a14 ?l14 ?c14 ?k14 ?a15 ?l15 ?c15 ?k15 ?a16 ?l16 ?c16 ?k16 ?a17 ?l17 ?c17 ?k17 ?a18 ?l18 ?c18 ?k18 ?a19 ?l19 ?c19 ?k19 ?a20 ?l20 ?c20 ?k20 ?a21 ?l21 ?c21 ?k21 ?a22 ?l22 ?c22 ?k22 ?a23 ?l23 ?c23 ?k23 ?a24 ?l24 ?c24 ?k24 ?a25 ?l25 ?c25 ?k25 ?z0 ?z1 ?z2 ?z3 ?z4 ?z5 ?z6 ?z7 ?z8 ?z9 ?z10 ?z11 ?z12 ?z13 ?z14 ?u0 ?u1 ?u2 ?u3 ?pg ?hd ?po ?sa ?mk ?kc ?nW ?nQ
    (case aC => k_is); (case a0 => k_is); (case l0 => k_is); (case c0 => k_is); (case k0 => k_is); (case a1 => k_is); (case l1 => k_is); (case c1 => k_is); (case k1 => k_is); (case a2 => k_is); (case l2 => k_is); (case c2 => k_is); (case k2 => k_is); (case a3 => k_is); (case l3 => k_is); (case c3 => k_is); (case k3 => k_is); (case a4 => k_is); (case l4 => k_is); (case c4 => k_is); (case k4 => k_is); (case a5 => k_is); (case l5 => k_is); (case c5 => k_is); (case k5 => k_is); (case a6 => k_is); (case l6 => k_is); (case c6 => k_is); (case k6 => k_is); (case a7 => k_is); (case l7 => k_is); (case c7 => k_is); (case k7 => k_is); (case a8 => k_is); (case i8 => k_is); (case l8 => k_is); (case c8 => k_is); (case k8 => k_is); (case a9 => k_is); (case i9 => k_is); (case l9 => k_is); (case c9 => k_is); (case k9 => k_is); (case a10 => k_is); (case i10 => k_is); (case l10 => k_is); (case c10 => k_is); (case k10 => k_is); (case a11 => k_is); (case i11 => k_is); (case l11 => k_is); (case c11 => k_is); (case k11 => k_is); (case a12 => k_is); (case i12 => k_is); (case l12 => k_is); (case c12 => k_is); (case k12 => k_is); (case a13 => k_is); (case l13 => k_is); (case c13 => k_is); (case k13 => k_is); (case a14 => k_is); (case l14 => k_is); (case c14 => k_is); (case k14 => k_is); (case a15 => k_is); (case l15 => k_is); (case c15 => k_is); (case k15 => k_is); (case a16 => k_is); (case l16 => k_is); (case c16 => k_is); (case k16 => k_is); (case a17 => k_is); (case l17 => k_is); (case c17 => k_is); (case k17 => k_is); (case a18 => k_is); (case l18 => k_is); (case c18 => k_is); (case k18 => k_is); (case a19 => k_is); (case l19 => k_is); (case c19 => k_is); (case k19 => k_is); (case a20 => k_is); (case l20 => k_is); (case c20 => k_is); (case k20 => k_is); (case a21 => k_is); (case l21 => k_is); (case c21 => k_is); (case k21 => k_is); (case a22 => k_is); (case l22 => k_is); (case c22 => k_is); (case k22 => k_is); (case a23 => k_is); (case l23 => k_is); (case c23 => k_is); (case k23 => k_is); (case a24 => k_is); (case l24 => k_is); (case c24 => k_is); (case k24 => k_is); (case a25 => k_is); (case l25 => k_is); (case c25 => k_is); (case k25 => k_is); (case z0 => k_is); (case z1 => k_is); (case z2 => k_is); (case z3 => k_is); (case z4 => k_is); (case z5 => k_is); (case z6 => k_is); (case z7 => k_is); (case z8 => k_is); (case z9 => k_is); (case z10 => k_is); (case z11 => k_is); (case z12 => k_is); (case z13 => k_is); (case z14 => k_is); (case u0 => k_is); (case u1 => k_is); (case u2 => k_is); (case u3 => k_is); (case pg => k_is); (case hd => k_is); (case po => k_is); (case sa => k_is); (case mk => k_is); (case kc => k_is); (case nW => k_is); (case nQ => k_is)

